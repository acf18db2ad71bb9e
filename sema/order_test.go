package sema_test

import (
	"strings"
	"testing"

	"hawser/api"
	"hawser/sema"
)

// wrong is an expression that is refused at its mark.
type wrong struct {
	marked string
	why    api.Errno
}

// wrongs are each refusal of each kind of expression.
func wrongs() []wrong {
	return []wrong{
		{"@q", api.ErrName}, {"@n.q", api.ErrName},
		{"(let x @q x)", api.ErrName}, {"(let x 1 @q)", api.ErrName},
		{"(if @b 1 1)", api.ErrType}, {"@(if 1 1 b)", api.ErrType},
		{"@(add 1)", api.ErrCount}, {"(add @b 1)", api.ErrType}, {"(add 1 @b)", api.ErrType}, {"@(neg 1 1)", api.ErrCount}, {"(eq @u u)", api.ErrType}, {"(eq 1 @b)", api.ErrType}, {"@(cut b 1)", api.ErrCount}, {"(cut b 1 @b)", api.ErrType}, {"(cat @1 1)", api.ErrType}, {"(len @u)", api.ErrType}, {"(at l @l)", api.ErrType},
		{"@(array q.Q)", api.ErrType}, {"(array num 1 @b)", api.ErrType}, {"@(array LONG)", api.ErrLong},
		{"@(Z)", api.ErrName}, {"@(B 1)", api.ErrCount}, {"(B 1 @1)", api.ErrType},
		{"(match @1 ((A) 1))", api.ErrType}, {"@(match u ((Z) 1))", api.ErrName}, {"@(match u ((Only) 1))", api.ErrType}, {"@(match u ((A) 1) ((A) 1))", api.ErrTaken}, {"@(match u ((A x) 1))", api.ErrCount}, {"(match u ((A) @q))", api.ErrName}, {"(match u ((A) 1) ((B x y) @y))", api.ErrType}, {"@(match u ((A) 1))", api.ErrCover},
		{"@(fn () q.Q 1)", api.ErrType}, {"@(fn ((x q.Q)) num 1)", api.ErrType}, {"@(fn ((x LONG)) num 1)", api.ErrLong}, {"(fn () num @q)", api.ErrName}, {"(fn () num @b)", api.ErrType},
		{"(call @a 1)", api.ErrType}, {"@(call p)", api.ErrCount}, {"(call p @b)", api.ErrType},
		{"@(q)", api.ErrName}, {"@(one)", api.ErrName}, {"@(g 1)", api.ErrCount}, {"(g 1 @1)", api.ErrType},
	}
}

// wide is here, with types of long names.
func wide(t testing.TB) setting {
	t.Helper()
	m := parsed(t, strings.Replace(sourceM, "(type One (Only))", "(type One (Only))"+longTypes, 1))
	return setting{m, scopeOf(t, m), mine(), len(m.Consts)}
}

func (w wrong) source() string { return strings.ReplaceAll(w.marked, "LONG", long(api.MaxText)) }

func (w wrong) unmarked() string { return strings.ReplaceAll(w.source(), "@", "") }

// P9.1: each refusal, wherever it stands in an expression that is right but for it.
func TestEachWrong(t *testing.T) {
	x := wide(t)
	for _, w := range wrongs() {
		x.wantRefused(t, w.source(), w.why)
		for _, form := range []string{
			"(let x % 1)", "(let x 1 %)", "(if % 1 1)", "(if 1 % 1)", "(if 1 1 %)", "(neg %)", "(add % 1)", "(add 1 %)", "(cut % 1 1)", "(cut b % 1)", "(cut b 1 %)", "(array num %)", "(array num 1 % 1)", "(B % b)", "(B 1 %)", "(n.P %)",
			"(match % ((A) 1) ((B x y) 1) ((C x y) 1))", "(match u ((A) %) ((B x y) 1) ((C x y) 1))", "(match u ((A) 1) ((B x y) %) ((C x y) 1))", "(match u ((A) 1) ((B x y) 1) ((C x y) %))", "(fn () num %)", "(fn ((x num)) (fn () num) (fn () num %))", "(call %)", "(call % 1)", "(call p %)", "(call g % u)", "(call g 1 %)", "(g % u)", "(g 1 %)", "(n.f %)",
		} {
			x.wantRefused(t, strings.Replace(form, "%", w.source(), 1), w.why)
		}
	}
}

// P9.1, R8: of two refusals in one expression the first one from the left is told, though what they are in would be refused, too.
func TestPairsOfWrongs(t *testing.T) {
	x := wide(t)
	for _, form := range []string{
		"(let x % #)", "(if % # 1)", "(if 1 % #)", "(if b % #)", "(add % #)", "(cut % 1 #)", "(cat % #)", "(array num % #)", "(array num b % 1 #)", "(B % #)", "(C % #)", "(call % #)", "(call p % #)", "(call 1 % #)", "(g % #)", "(six b % b # 1 1)",
		"(match % ((A) #) ((B x y) 1) ((C x y) 1))", "(match % ((Z) #))", "(match u ((A) %) ((B x y) #) ((C x y) 1))", "(match u ((A) %) ((A) #))", "(match u ((A) %) ((Z) #))", "(match u ((A) 1) ((B x y) %) ((C x) #))", "(fn () num (add % #))", "(fn () bytes (add % #))", "(neg (array num % #))", "(let x (add 1 %) (add 1 #))",
	} {
		for _, one := range wrongs() {
			for _, two := range wrongs() {
				marked := strings.Replace(form, "%", one.source(), 1)
				x.wantRefused(t, strings.Replace(marked, "#", two.unmarked(), 1), one.why)
			}
		}
	}
}

// P9.1: what is refused of an expression ahead of its Kids, whatever these are; and behind them.
func TestAheadAndBehind(t *testing.T) {
	x := wide(t)
	for _, w := range wrongs() {
		for marked, why := range map[string]api.Errno{
			"@(add %)": api.ErrCount, "@(neg 1 %)": api.ErrCount, "@(len % %)": api.ErrCount, "@(cut b %)": api.ErrCount, "@(array q.Q %)": api.ErrType, "@(array (array k.W) 1 %)": api.ErrType, "@(Z %)": api.ErrName, "@(n.Z 1 %)": api.ErrName, "@(A %)": api.ErrCount, "@(B %)": api.ErrCount, "@(B 1 b %)": api.ErrCount,
			"(match @1 ((A) %))": api.ErrType, "@(match u ((Z) %))": api.ErrName, "@(match u ((Only) %))": api.ErrType, "@(match u ((A) 1) ((A) %))": api.ErrTaken, "@(match u ((A x) %))": api.ErrCount, "@(match u ((A) 1) ((B x) %))": api.ErrCount, "(match u ((A) 1) ((B x y) @y) ((C x y) %))": api.ErrType,
			"@(fn ((x q.Q)) num %)": api.ErrType, "@(fn () k.W %)": api.ErrType, "@(fn ((x LONG)) num %)": api.ErrLong, "@(q %)": api.ErrName, "@(one %)": api.ErrName, "@(z %)": api.ErrCount, "@(g %)": api.ErrCount, "@(g 1 u %)": api.ErrCount, "@(n.f 1 %)": api.ErrCount,
		} {
			x.wantRefused(t, strings.ReplaceAll(strings.ReplaceAll(marked, "%", w.unmarked()), "LONG", long(api.MaxText)), why)
		}
		for _, form := range []string{"(add b %)", "(eq u %)", "(cat 1 %)", "(at 1 %)", "(cut 1 b %)", "(if b 1 %)", "(if b % b)", "(array num b %)", "(array LONG %)", "(B b %)", "(C 1 %)", "(fn () bytes %)", "(call 1 %)", "(call z %)", "(call p b %)", "(g b %)", "(match % ((Z) 1))", "(match u ((A) %))", "(match u ((A) 1) ((B x y) %))"} {
			marked := strings.Replace(form, "%", w.source(), 1)
			x.wantRefused(t, strings.ReplaceAll(marked, "LONG", long(api.MaxText)), w.why)
		}
	}
}

// The chapter's first run and its examples, of Expr; and a nil Scope.
func TestRunsAndExamples(t *testing.T) {
	x := here(t)
	x.wantRefused(t, `(add a @"a")`, api.ErrType)
	x.with(api.Param{Name: "one", Type: "bytes"}).wantType(t, "one", "bytes") // example 1
	x.wantType(t, "(let one b one)", "bytes")
	x.wantType(t, "g", "(num,m.U)num") // example 2
	x.wantType(t, "(let f g (call f 1 u))", "num")
	x.wantRefused(t, "@(match u ((A) 1) ((A) 2))", api.ErrTaken) // example 3
}

// P9.1: a nil Scope.
func TestNoScope(t *testing.T) {
	x := here(t)
	for _, source := range []string{"1", "q", "(add 1)", "a", "(let x 1 x)", "   (A)"} {
		typed, why, place := sema.Expr(nil, x.locals, 9, x.m, read(t, source))
		if got := told(typed, why, place); got != told("", api.ErrArg, 0) {
			t.Errorf("%s: %s", source, got)
		}
	}
	typed, why, place := sema.Expr(nil, nil, 0, api.Module{}, api.Expr{})
	if got := told(typed, why, place); got != told("", api.ErrArg, 0) {
		t.Error(got)
	}
}

// R5: an expression's places are told as they are, wherever it stands.
func TestPlaces(t *testing.T) {
	x := here(t)
	for _, w := range wrongs() {
		if strings.Contains(w.marked, "LONG") {
			continue
		}
		for _, by := range []int{0, 1, 1000, -1000, 1 << 40} {
			source, place := at(t, w.marked)
			if got, want := x.expr(moved(read(t, source), by)), told("", w.why, place+by); got != want {
				t.Errorf("%s, moved by %d: %s, want %s", w.marked, by, got, want)
			}
		}
	}
}

// moved is e at another place.
func moved(e api.Expr, by int) api.Expr {
	e.At += by
	kids, arms := e.Kids, e.Arms
	e.Kids, e.Arms = nil, nil
	for _, kid := range kids {
		e.Kids = append(e.Kids, moved(kid, by))
	}
	for _, arm := range arms {
		arm.Body = moved(arm.Body, by)
		e.Arms = append(e.Arms, arm)
	}
	return e
}
