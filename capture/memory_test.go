package capture_test

import (
	"fmt"
	"slices"
	"testing"
	"unsafe"

	"hawser/api"
	"hawser/capture"
)

// sources are expressions of each kind, of which something is told.
func sources() []string {
	return []string{
		"1", `"x"`, "x", "n.x", "(let x y (add x z))", "(if a (let b c b) (if b b d))", "(array T a (array num b) c)", "(C (n.D b) a b)", "(call f (g x) x)", "(neg)",
		"(match x ((A a b) (add a c)) ((n.B) a) ((C c) (let d c e)))", "(fn ((x num) (y T)) num (add x (let z y w)))", "(let x 1 (fn () num (add x (match y ((A z) (add z u))))))",
		"(let a (let b 1 (let c 2 x)) (fn ((x num)) num (fn ((y num)) num (array num a b c x y))))",
	}
}

// roomy is l with room behind it, that holds x.
func roomy[E any](l []E, x E) []E { return append(slices.Clip(l), x, x)[:len(l)] }

// spare is an expression that would change each answer.
func spare() api.Expr {
	return nodeOf(api.Let, "a", nodeOf(api.Var, "spare"), matchOf(nodeOf(api.Var, "spare"), []string{"b", "c", "d", "e"}, nodeOf(api.Op, "neg", nodeOf(api.Op, "neg", nodeOf(api.Op, "neg")))))
}

// roomyExpr is e with room behind each list.
func roomyExpr(e api.Expr) api.Expr {
	for k, kid := range e.Kids {
		e.Kids[k] = roomyExpr(kid)
	}
	for k, arm := range e.Arms {
		e.Arms[k].Vars, e.Arms[k].Body = roomy(arm.Vars, "x"), roomyExpr(arm.Body)
	}
	e.Kids = roomy(e.Kids, spare())
	e.Arms = roomy(e.Arms, api.Arm{Case: "Spare", Vars: []string{"a", "b", "c", "d"}, Body: spare()})
	e.Params = roomy(e.Params, api.Param{Name: "x", Type: "spare.Param"})
	return e
}

// whole tells all of e, spare room included.
func whole(e api.Expr) string {
	s := fmt.Sprintf("%d %d %q %v %q %q %q %d %d %d", e.Kind, e.At, e.Name, e.N, e.Text, e.Type, e.Params[:cap(e.Params)], len(e.Params), len(e.Kids), len(e.Arms))
	for _, kid := range e.Kids[:cap(e.Kids)] {
		s += "(" + whole(kid) + ")"
	}
	for _, arm := range e.Arms[:cap(e.Arms)] {
		s += fmt.Sprintf("{%q %q %d %s}", arm.Case, arm.Vars[:cap(arm.Vars)], len(arm.Vars), whole(arm.Body))
	}
	return s
}

// R2, R5: what was handed in stands as it was behind each call, and what is behind the lists' ends is not read.
func TestChangesNothing(t *testing.T) {
	calls := map[string]func(e api.Expr) string{
		"Free":   func(e api.Expr) string { return fmt.Sprintf("%q", capture.Free(e)) },
		"Locals": func(e api.Expr) string { return fmt.Sprint(capture.Locals(e)) },
		"Depth":  func(e api.Expr) string { return fmt.Sprint(capture.Depth(e)) },
		"Count":  func(e api.Expr) string { return fmt.Sprint(capture.Count(e)) },
	}
	for _, source := range sources() {
		e := roomyExpr(read(t, source))
		ahead := whole(e)
		for name, call := range calls {
			for range 2 {
				if got, want := call(e), call(read(t, source)); got != want {
					t.Errorf("%s(%s) with spare room: %s, want %s", name, source, got, want)
				}
				if now := whole(e); now != ahead {
					t.Errorf("%s(%s): %s, was %s", name, source, now, ahead)
				}
			}
		}
		wantAsByModel(t, e)
	}
}

// scribble writes over a list, spare room included.
func scribble(l []string) {
	for k := range l[:cap(l)] {
		l[:cap(l)][k] = "scribbled"
	}
}

// R2: what is answered may be changed, spare room included: what was handed in and other answers stand as they were.
func TestAnswersMayBeChanged(t *testing.T) {
	for _, source := range sources() {
		e := roomyExpr(read(t, source))
		ahead, tellings, kept := whole(e), answers(e), capture.Free(e)
		want := slices.Clone(kept)
		scribble(capture.Free(e))
		if now := whole(e); now != ahead {
			t.Errorf("%s: %s, was %s", source, now, ahead)
		}
		if !slices.Equal(kept, want) {
			t.Errorf("%s: %q, was %q", source, kept, want)
		}
		if now := answers(e); now != tellings {
			t.Errorf("%s: %s, was %s", source, now, tellings)
		}
	}
}

// rename changes all names of e where they stand.
func rename(e *api.Expr) {
	e.Name = "scribbled"
	for k := range e.Params {
		e.Params[k].Name = "scribbled"
	}
	for k := range e.Kids {
		rename(&e.Kids[k])
	}
	for k := range e.Arms {
		scribble(e.Arms[k].Vars)
		rename(&e.Arms[k].Body)
	}
}

// R2: what was handed in may be changed: answers stand as they were, and later calls see the change.
func TestKeepsNothing(t *testing.T) {
	for _, source := range sources() {
		e := read(t, source)
		kept := capture.Free(e)
		want := slices.Clone(kept)
		rename(&e)
		if !slices.Equal(kept, want) {
			t.Errorf("%s: %q, was %q", source, kept, want)
		}
		wantAsByModel(t, e)
	}
}

// textsOf are all texts of an expression.
func textsOf(e api.Expr) []string {
	l := []string{e.Name, e.Text, e.Type}
	for _, param := range e.Params {
		l = append(l, param.Name, param.Type)
	}
	for _, kid := range e.Kids {
		l = append(l, textsOf(kid)...)
	}
	for _, arm := range e.Arms {
		l = append(append(append(l, arm.Case), arm.Vars...), textsOf(arm.Body)...)
	}
	return l
}

// R2: no text of what is handed in is answered.
func TestTextsAreNew(t *testing.T) {
	for _, source := range sources() {
		e := read(t, source)
		for _, name := range capture.Free(e) {
			for _, text := range textsOf(e) {
				from, at := uintptr(unsafe.Pointer(unsafe.StringData(text))), uintptr(unsafe.Pointer(unsafe.StringData(name)))
				if from <= at && at < from+uintptr(len(text)) {
					t.Errorf("%s: %q is a piece of what was handed in", source, name)
				}
			}
		}
	}
}

// R4: the same call again answers the same, whatever was asked in between.
func TestSameAgain(t *testing.T) {
	var first []string
	for _, source := range sources() {
		first = append(first, answers(read(t, source)))
	}
	for range 50 {
		for k, source := range sources() {
			if got := answers(read(t, source)); got != first[k] {
				t.Fatalf("%s again: %s, was %s", source, got, first[k])
			}
		}
	}
}
