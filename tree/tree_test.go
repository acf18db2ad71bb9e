package tree_test

import (
	"fmt"
	"math/rand"
	"strings"
	"testing"
	"unsafe"

	"hawser/api"
	"hawser/lex"
	"hawser/tree"
)

func list(at int, kids ...tree.Tree) tree.Tree {
	return tree.Tree{Kind: lex.Open, At: at, Kids: kids}
}

func atom(at int, text string) tree.Tree { return tree.Tree{Kind: lex.Atom, At: at, Text: text} }

func quoted(at int, text string) tree.Tree { return tree.Tree{Kind: lex.Quoted, At: at, Text: text} }

// same holds two trees against each other; a nil list is an empty one.
func same(a, b tree.Tree, places bool) bool {
	if a.Kind != b.Kind || a.Text != b.Text || len(a.Kids) != len(b.Kids) || places && a.At != b.At {
		return false
	}
	for i := range a.Kids {
		if !same(a.Kids[i], b.Kids[i], places) {
			return false
		}
	}
	return true
}

func wantTree(t *testing.T, s string, want tree.Tree) {
	t.Helper()
	got, why, at := tree.Parse(s)
	if !same(got, want, true) || why != api.OK || at != 0 {
		t.Errorf("Parse(%.60q): %+v, %v at %d, want %+v", s, got, why, at, want)
	}
}

func wantRefusal(t *testing.T, s string, why api.Errno, at int) {
	t.Helper()
	got, gotWhy, gotAt := tree.Parse(s)
	if !same(got, tree.Tree{}, true) || gotWhy != why || gotAt != at {
		t.Errorf("Parse(%.60q): %+v, %v at %d, want %v at %d", s, got, gotWhy, gotAt, why, at)
	}
}

func wantPrint(t *testing.T, x tree.Tree, want string) {
	t.Helper()
	if got := tree.Print(x); got != want {
		t.Errorf("Print: %.60q, want %.60q", got, want)
	}
}

// wantRound: P4.3 for one tree, whose Print is not too long.
func wantRound(t *testing.T, x tree.Tree) {
	t.Helper()
	s := tree.Print(x)
	got, why, at := tree.Parse(s)
	if why != api.OK || at != 0 || !same(got, x, false) {
		t.Errorf("Parse(%.60q) of Print: %v at %d, another tree", s, why, at)
	}
}

func TestRuns(t *testing.T) {
	x, why, at := tree.Parse(`(a (b))`)
	if why != api.OK || at != 0 {
		t.Errorf("%v at %d", why, at)
	}
	wantPrint(t, x, `(a (b))`)
	wantRefusal(t, `)`, api.ErrForm, 0)
	wantRefusal(t, `(a`, api.ErrEnd, 2)
	wantRefusal(t, `a b`, api.ErrTail, 2)
}

func TestExamples(t *testing.T) {
	wantRefusal(t, "", api.ErrForm, 0)
	wantRefusal(t, strings.Repeat("(", 41), api.ErrNest, 40)
	wantRefusal(t, strings.Repeat("(", 41)+strings.Repeat(")", 41), api.ErrNest, 40)
	wantPrint(t, atom(0, "it"), "it")
}

// P4.1: the Tree, with the place, the Kind and the Text of each part.
func TestParse(t *testing.T) {
	wantTree(t, "a", atom(0, "a"))
	wantTree(t, " \t\r\na ", atom(4, "a"))
	wantTree(t, `"a"`, quoted(0, "a"))
	wantTree(t, ` ""`, quoted(1, ""))
	wantTree(t, `"(a;\"\\\n\x41)"`, quoted(0, "(a;\"\\\nA)"))
	wantTree(t, "()", list(0))
	wantTree(t, " ( ) ", list(1))
	wantTree(t, "(())", list(0, list(1)))
	wantTree(t, "(()())", list(0, list(1), list(3)))
	wantTree(t, "(a (b))", list(0, atom(1, "a"), list(3, atom(4, "b"))))
	wantTree(t, "((a) b)", list(0, list(1, atom(2, "a")), atom(5, "b")))
	wantTree(t, `(a"b"(c)d)`, list(0, atom(1, "a"), quoted(2, "b"), list(5, atom(6, "c")), atom(8, "d")))
	wantTree(t, "(((a)b)(c(d))e)", list(0, list(1, list(2, atom(3, "a")), atom(5, "b")), list(7, atom(8, "c"), list(9, atom(10, "d"))), atom(13, "e")))
	wantTree(t, "; (\n(x ; ) y\n) ; z", list(4, atom(5, "x")))
	wantTree(t, "(fun f (x int) (add x 1+2i))", list(0, atom(1, "fun"), atom(5, "f"), list(7, atom(8, "x"), atom(10, "int")), list(15, atom(16, "add"), atom(20, "x"), atom(22, "1+2i"))))
}

// P4.1: without a token the place is the end, blanks and remarks counted.
func TestNoToken(t *testing.T) {
	for _, s := range []string{"", " ", "\t\n\r ", ";", "; a (remark", " ;x\n", ";)\n;\"\n  ", strings.Repeat(" ", api.MaxSource)} {
		wantRefusal(t, s, api.ErrForm, len(s))
	}
}

// P4.1: what lex.Split refuses is refused as it refuses it, also where the tokens ahead of it would be refused.
func TestSplitRefuses(t *testing.T) {
	wantRefusal(t, "\x01", api.ErrForm, 0)
	wantRefusal(t, "(a \x7f", api.ErrForm, 3)
	wantRefusal(t, "(a) \xff", api.ErrForm, 4)
	wantRefusal(t, `("a`, api.ErrEnd, 1)
	wantRefusal(t, `("\q")`, api.ErrForm, 2)
	wantRefusal(t, `) "a`, api.ErrEnd, 2)
	wantRefusal(t, "a b \x00", api.ErrForm, 4)
	wantRefusal(t, strings.Repeat("(", 41)+`"`, api.ErrEnd, 41)
	long := `"` + strings.Repeat("a", api.MaxText+1) + `"`
	wantRefusal(t, long, api.ErrLong, 0)
	wantRefusal(t, "(a "+long, api.ErrLong, 3)
	wantRefusal(t, ") "+long, api.ErrLong, 2)
	wantTree(t, `"`+strings.Repeat("a", api.MaxText)+`"`, quoted(0, strings.Repeat("a", api.MaxText)))
}

// P4.1: MaxSource bytes are read, one more is not, whatever they are.
func TestSourceLimit(t *testing.T) {
	blanks := strings.Repeat(" ", api.MaxSource-1)
	wantTree(t, blanks+"a", atom(api.MaxSource-1, "a"))
	wantRefusal(t, blanks+")", api.ErrForm, api.MaxSource-1)
	wantRefusal(t, blanks+"(", api.ErrEnd, api.MaxSource)
	wantRefusal(t, blanks+" a", api.ErrLong, 0)
	wantRefusal(t, blanks+"  ", api.ErrLong, 0)
	wantRefusal(t, ")"+blanks+")", api.ErrLong, 0)
}

// P4.1: a Close without an Open is ErrForm, behind a whole tree too.
func TestCloseWithoutOpen(t *testing.T) {
	for _, ahead := range []string{"", " ", ";(\n", "a", `"("`, "()", "(a (b))", strings.Repeat("(", 40) + strings.Repeat(")", 40)} {
		for _, behind := range []string{"", ")", "(", " a", " \"b\""} {
			wantRefusal(t, ahead+")"+behind, api.ErrForm, len(ahead))
		}
	}
}

// P4.1: a token of each kind, but a Close, is refused behind a whole tree of each kind.
func TestBehindWhole(t *testing.T) {
	for _, ahead := range []string{"a", `"a"`, "()", "(a)", "((a) (b))", strings.Repeat("(", 40) + strings.Repeat(")", 40)} {
		for _, between := range []string{" ", "\n", "; (\n"} {
			for _, behind := range []string{"b", `"b"`, `""`, "(", "()", "(b)", "b)", "b c", strings.Repeat("(", 41)} {
				wantRefusal(t, ahead+between+behind, api.ErrTail, len(ahead+between))
			}
		}
	}
	wantRefusal(t, `a"b"`, api.ErrTail, 1)
	wantRefusal(t, `"b"a`, api.ErrTail, 3)
	wantRefusal(t, `a(`, api.ErrTail, 1)
	wantRefusal(t, `()()`, api.ErrTail, 2)
}

// P4.1: an Open that is not closed is told at the end of the source, not at the last token's.
func TestNotClosed(t *testing.T) {
	for _, s := range []string{"(", "( ", "(a", "(a  ; )", "(\n", "((a)", "(()", "(() (", strings.Repeat("(", 40), strings.Repeat("(", 40) + strings.Repeat(")", 39)} {
		wantRefusal(t, s, api.ErrEnd, len(s))
	}
}

// P4.1: the first refusal from the left is told.
func TestFirstRefusal(t *testing.T) {
	wantRefusal(t, ") )", api.ErrForm, 0)
	wantRefusal(t, ") a b", api.ErrForm, 0)
	wantRefusal(t, ")(", api.ErrForm, 0)
	wantRefusal(t, "a b )", api.ErrTail, 2)
	wantRefusal(t, "a ) b", api.ErrForm, 2)
	wantRefusal(t, "() (() )", api.ErrTail, 3)
	wantRefusal(t, "(()) ) (", api.ErrForm, 5)
	wantRefusal(t, strings.Repeat("(", 41)+strings.Repeat(")", 50), api.ErrNest, 40)
	wantRefusal(t, "a "+strings.Repeat("(", 41), api.ErrTail, 2)
	wantRefusal(t, ") "+strings.Repeat("(", 41), api.ErrForm, 0)
	wantRefusal(t, strings.Repeat("(", 50), api.ErrNest, 40)
	wantRefusal(t, strings.Repeat("( ", 50), api.ErrNest, 80)
}

// P4.1: MaxNest brackets open at once, with what stands within them, and one more wherever it comes.
func TestNest(t *testing.T) {
	opens, closes := strings.Repeat("(", api.MaxNest), strings.Repeat(")", api.MaxNest)
	want := list(api.MaxNest - 1)
	for at := api.MaxNest - 2; at >= 0; at-- {
		want = list(at, want)
	}
	wantTree(t, opens+closes, want)
	x, why, _ := tree.Parse(opens + `a "b"` + closes)
	if why != api.OK {
		t.Errorf("MaxNest open: %v", why)
	}
	wantPrint(t, x, opens+`a "b"`+closes)
	wantRefusal(t, opens+"()"+closes, api.ErrNest, api.MaxNest)
	wantRefusal(t, opens+"a b ("+closes, api.ErrNest, api.MaxNest+4)
	wantRefusal(t, opens+") () (()", api.ErrNest, len(opens)+6)
}

// P4.1: what was closed is not counted: many more than MaxNest stand side by side, also as deep as may be.
func TestSideBySide(t *testing.T) {
	for _, deep := range []int{1, 2, api.MaxNest - 1} {
		many := 2000
		s := strings.Repeat("(", deep) + strings.Repeat("()", many) + strings.Repeat(")", deep)
		x, why, at := tree.Parse(s)
		if why != api.OK || at != 0 {
			t.Fatalf("%d deep: %v at %d", deep, why, at)
		}
		for range deep - 1 {
			x = x.Kids[0]
		}
		if len(x.Kids) != many {
			t.Fatalf("%d deep: %d Kids", deep, len(x.Kids))
		}
		for i, kid := range x.Kids {
			if !same(kid, list(deep+2*i), true) {
				t.Fatalf("%d deep: %+v", deep, kid)
			}
		}
	}
}

// reading is P4.1 told once more, by calls within calls instead of a stack.
type reading struct {
	tokens []lex.Token
	end    int
	why    api.Errno
	place  int
}

func (r *reading) refuse(why api.Errno, place int) {
	if r.why == api.OK {
		r.why, r.place = why, place
	}
}

func (r *reading) one(opened int) tree.Tree {
	if len(r.tokens) == 0 {
		r.refuse(api.ErrForm, r.end)
		return tree.Tree{}
	}
	token := r.tokens[0]
	r.tokens = r.tokens[1:]
	x := tree.Tree{Kind: token.Kind, At: token.At, Text: token.Text}
	switch token.Kind {
	case lex.Close:
		r.refuse(api.ErrForm, token.At)
	case lex.Open:
		if opened++; opened > api.MaxNest {
			r.refuse(api.ErrNest, token.At)
		}
		x.Kids = r.untilClosed(opened)
	}
	return x
}

func (r *reading) untilClosed(opened int) (kids []tree.Tree) {
	for r.why == api.OK {
		if len(r.tokens) == 0 {
			r.refuse(api.ErrEnd, r.end)
		} else if r.tokens[0].Kind == lex.Close {
			r.tokens = r.tokens[1:]
			return kids
		} else {
			kids = append(kids, r.one(opened))
		}
	}
	return nil
}

func parseByCalls(s string) (tree.Tree, api.Errno, int) {
	tokens, why, at := lex.Split(s)
	if why != api.OK {
		return tree.Tree{}, why, at
	}
	r := &reading{tokens: tokens, end: len(s)}
	x := r.one(0)
	if len(r.tokens) > 0 && r.tokens[0].Kind == lex.Close {
		r.refuse(api.ErrForm, r.tokens[0].At)
	} else if len(r.tokens) > 0 {
		r.refuse(api.ErrTail, r.tokens[0].At)
	}
	if r.why != api.OK {
		return tree.Tree{}, r.why, r.place
	}
	return x, api.OK, 0
}

func wantAsByCalls(t *testing.T, s string) {
	t.Helper()
	if x, why, at := parseByCalls(s); why == api.OK {
		wantTree(t, s, x)
	} else {
		wantRefusal(t, s, why, at)
	}
}

// P4.1: all short rows of tokens, alone and where MaxNest is near.
func TestParseAgainstCalls(t *testing.T) {
	near := strings.Repeat("( ", api.MaxNest-2)
	rows := []string{""}
	for range 6 {
		var longer []string
		for _, row := range rows {
			wantAsByCalls(t, row)
			wantAsByCalls(t, near+row)
			wantAsByCalls(t, near+row+strings.Repeat(")", api.MaxNest-2))
			for _, token := range []string{"(", ") ", "a ", `"b"`} {
				longer = append(longer, row+token)
			}
		}
		rows = longer
	}
}

// P4.1: rows of tokens and of what is none, by chance.
func TestParseOfAnything(t *testing.T) {
	r := rand.New(rand.NewSource(4))
	pieces := []string{"(", "(", "(", ")", ")", "a", " ", "\n", `"b"`, `"\x00"`, ";c\n", `"`, "\x01", ";"}
	for range 20000 {
		var s strings.Builder
		usual := len(pieces) - 3*r.Intn(2)
		for range r.Intn(60) {
			s.WriteString(pieces[r.Intn(usual)])
		}
		wantAsByCalls(t, s.String())
	}
}

// P4.2: ordinary trees.
func TestPrint(t *testing.T) {
	wantPrint(t, atom(7, "a"), "a")
	wantPrint(t, atom(0, ""), "")
	wantPrint(t, atom(0, "as (it\x00 is\xff"), "as (it\x00 is\xff")
	wantPrint(t, quoted(0, ""), `""`)
	wantPrint(t, quoted(0, "a \"b\"\\\n\x00\x7f\xff~"), `"a \"b\"\\\n\x00\x7f\xff~"`)
	wantPrint(t, list(0), "()")
	wantPrint(t, tree.Tree{Kind: lex.Open, Kids: []tree.Tree{}}, "()")
	wantPrint(t, list(0, atom(0, "a")), "(a)")
	wantPrint(t, list(0, list(0)), "(())")
	wantPrint(t, list(0, list(0), list(0)), "(() ())")
	wantPrint(t, list(0, atom(0, "a"), quoted(0, "b"), list(0, atom(0, "c")), atom(0, "d")), `(a "b" (c) d)`)
	wantPrint(t, list(0, list(0, list(0, atom(0, "a")), atom(0, "b")), list(0), atom(0, "c")), "(((a) b) () c)")
}

// P4.2: of an Atom and a Quoted only the Text is told, of an Open only the Kids.
func TestPrintLeavesOut(t *testing.T) {
	kids := []tree.Tree{atom(0, "x")}
	wantPrint(t, tree.Tree{Kind: lex.Atom, Text: "a", Kids: kids}, "a")
	wantPrint(t, tree.Tree{Kind: lex.Quoted, Text: "a", Kids: kids}, `"a"`)
	wantPrint(t, tree.Tree{Kind: lex.Open, Text: "a", Kids: kids}, "(x)")
	wantPrint(t, tree.Tree{Kind: lex.Open, At: -1, Kids: []tree.Tree{{Kind: lex.Atom, At: 1 << 40, Text: "y"}}}, "(y)")
}

// P4.2: a Tree of another Kind is nothing, at any depth, whatever it has; the blanks beside it stay.
func TestPrintOtherKinds(t *testing.T) {
	kids := []tree.Tree{atom(0, "x"), list(0, atom(0, "y"))}
	for _, kind := range []int{0, lex.Close, lex.Quoted + 1, 9, -1, lex.Open - 256, lex.Atom + 256, 1 << 62, -1 << 63} {
		other := tree.Tree{Kind: kind, At: 1, Text: "text", Kids: kids}
		wantPrint(t, other, "")
		wantPrint(t, list(0, other), "()")
		wantPrint(t, list(0, other, atom(0, "a")), "( a)")
		wantPrint(t, list(0, atom(0, "a"), other), "(a )")
		wantPrint(t, list(0, other, other, other), "(  )")
		wantPrint(t, list(0, atom(0, "a"), other, list(0, list(0, quoted(0, "b"), other), other)), `(a  (("b" ) ))`)
	}
}

func nested(deep int) tree.Tree {
	x := list(0)
	for range deep - 1 {
		x = list(0, x)
	}
	return x
}

// P4.2 and R1: trees much deeper and wider than those that Parse makes.
func TestPrintGreat(t *testing.T) {
	for _, deep := range []int{api.MaxNest, api.MaxNest + 1, 1 << 16, 1 << 20} {
		wantPrint(t, nested(deep), strings.Repeat("(", deep)+strings.Repeat(")", deep))
	}
	wide := make([]tree.Tree, 1<<16)
	for i := range wide {
		wide[i] = atom(i, "ab")
	}
	wantPrint(t, list(0, wide...), "("+strings.Repeat("ab ", len(wide)-1)+"ab)")
	wantPrint(t, quoted(0, strings.Repeat("\n", 1<<16)), `"`+strings.Repeat(`\n`, 1<<16)+`"`)
}

// printByCalls is P4.2 told once more.
func printByCalls(x tree.Tree) string {
	switch x.Kind {
	case lex.Atom:
		return x.Text
	case lex.Quoted:
		return lex.Quote(x.Text)
	case lex.Open:
		var kids []string
		for _, kid := range x.Kids {
			kids = append(kids, printByCalls(kid))
		}
		return "(" + strings.Join(kids, " ") + ")"
	}
	return ""
}

// someTree makes a tree by chance: one that Parse could have made, if it is right.
func someTree(r *rand.Rand, deep int, right bool) tree.Tree {
	if !right && r.Intn(4) == 0 {
		return tree.Tree{Kind: r.Intn(9) - 2, At: r.Intn(9), Text: "a\n(", Kids: []tree.Tree{atom(0, "x"), {}, list(0)}}
	}
	switch n := r.Intn(5); {
	case deep == 0 || n == 0:
		return atom(0, []string{"a", "B.c", "1+2i", "#!", "x'y\\", "~"}[r.Intn(6)])
	case n == 1:
		text := make([]byte, r.Intn(9))
		r.Read(text)
		return quoted(0, string(text))
	}
	x := list(0)
	for range r.Intn(4) {
		x.Kids = append(x.Kids, someTree(r, deep-1, right))
	}
	return x
}

func TestPrintAgainstCalls(t *testing.T) {
	r := rand.New(rand.NewSource(5))
	for i := range 4000 {
		x := someTree(r, 6, i%2 == 0)
		wantPrint(t, x, printByCalls(x))
	}
}

// P4.3: trees by chance, and each byte in a Quoted.
func TestRound(t *testing.T) {
	r := rand.New(rand.NewSource(6))
	for range 4000 {
		wantRound(t, someTree(r, 6, true))
	}
	for c := range 256 {
		wantRound(t, quoted(0, string([]byte{byte(c)})))
		wantRound(t, list(0, quoted(0, string([]byte{'a', byte(c), '0'})), atom(0, "b")))
	}
	for deep := range api.MaxNest {
		wantRound(t, nested(deep+1))
	}
	wantRound(t, quoted(0, strings.Repeat("\x00", api.MaxText)))
	wantRefusal(t, tree.Print(nested(api.MaxNest+1)), api.ErrNest, api.MaxNest)
}

// P4.3: of what Parse made of a source whose Print is longer than it: just MaxSource bytes, and one more.
func TestRoundLimit(t *testing.T) {
	for _, c := range []struct {
		last string
		size int
	}{{"ab", api.MaxSource - 1}, {"abc", api.MaxSource}, {"abcd", api.MaxSource + 1}} {
		x, why, _ := tree.Parse("(" + strings.Repeat("()", 2729) + c.last + ")")
		s := tree.Print(x)
		if why != api.OK || len(s) != c.size {
			t.Fatalf("%v, printed %d bytes, want %d", why, len(s), c.size)
		}
		if c.size > api.MaxSource {
			wantRefusal(t, s, api.ErrLong, 0)
		} else {
			wantRound(t, x)
		}
	}
	wantRound(t, atom(0, strings.Repeat("a", api.MaxSource)))
	wantRefusal(t, tree.Print(atom(0, strings.Repeat("a", api.MaxSource+1))), api.ErrLong, 0)
}

// scribble writes over a tree's lists, spare room included.
func scribble(x tree.Tree) {
	room := x.Kids[:cap(x.Kids)]
	for i := range room {
		scribble(room[i])
		room[i] = atom(-1, "scribbled")
	}
}

// R2: what is written into one list of an answer, spare room included, is seen in no other one, nor in another answer.
func TestParseSharesNoLists(t *testing.T) {
	const s = `((a b c) (d (e) f) (g h i j k) () ((l)))`
	want, _, _ := tree.Parse(s)
	kept := tree.Print(want)
	for i := range want.Kids {
		got, _, _ := tree.Parse(s)
		scribble(got.Kids[i])
		got.Kids[i] = want.Kids[i]
		if !same(got, want, true) {
			t.Errorf("list %d shares memory with another one: %s", i, tree.Print(got))
		}
	}
	got, _, _ := tree.Parse(s)
	scribble(got)
	wantPrint(t, want, kept)
}

// R2: no Text keeps the source.
func TestParseKeepsNoSource(t *testing.T) {
	s := strings.Clone(`(abcdefgh "ijklmnop" (qrstuvwx))`)
	from := uintptr(unsafe.Pointer(unsafe.StringData(s)))
	var look func(x tree.Tree)
	look = func(x tree.Tree) {
		if at := uintptr(unsafe.Pointer(unsafe.StringData(x.Text))); x.Text != "" && from <= at && at < from+uintptr(len(s)) {
			t.Errorf("%q is a piece of the source", x.Text)
		}
		for _, kid := range x.Kids {
			look(kid)
		}
	}
	x, _, _ := tree.Parse(s)
	look(x)
}

// R2: Print changes nothing of what it is handed, spare room included, and answers no piece of it.
func TestPrintChangesNothing(t *testing.T) {
	room := []tree.Tree{atom(1, "a"), list(2, quoted(3, "b")), {}, atom(9, "spare"), list(9, atom(9, "spare"))}
	want := fmt.Sprintf("%+v", room)
	x := tree.Tree{Kind: lex.Open, Kids: room[:3]}
	wantPrint(t, x, `(a ("b") )`)
	if got := fmt.Sprintf("%+v", room); got != want || len(x.Kids) != 3 {
		t.Errorf("changed: %s", got)
	}
	text := strings.Clone("an atom alone")
	if unsafe.StringData(tree.Print(atom(0, text))) == unsafe.StringData(text) {
		t.Error("the answer is the Text that was handed in")
	}
}

func FuzzParse(f *testing.F) {
	for _, s := range []string{"", "(a (b))", `(a"b"(c)d)`, "a )", "(a", "\"\\x41\"", "; c\n()"} {
		f.Add(s)
	}
	f.Fuzz(func(t *testing.T, s string) {
		wantAsByCalls(t, s)
		x, why, _ := tree.Parse(s)
		if why != api.OK {
			return
		}
		wantPrint(t, x, printByCalls(x))
		if len(tree.Print(x)) <= api.MaxSource {
			wantRound(t, x)
		}
	})
}
