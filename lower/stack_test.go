package lower_test

import (
	"fmt"
	"strings"
	"testing"

	"hawser/api"
	"hawser/lower"
	"hawser/object"
)

// ones is a number that so many are needed for on the stack.
func ones(n int) string { return "(len (array num " + times(n, "1") + "))" }

// behind is a number for which so many wait on the stack while inner is made.
func behind(n int, inner string) string {
	if n > 31 {
		return "(len (array num " + times(31, "1") + " " + behind(n-31, inner) + "))"
	}
	return "(len (array num " + times(n, "1") + " " + inner + "))"
}

func nest(n int, ahead, inner, after string) string {
	return strings.Repeat(ahead, n) + inner + strings.Repeat(after, n)
}

const funG = "(fun g ((a num) (b num) (c num) (d num) (e num) (f num)) num a)"

// P16.1, MaxStack: what waits on the stack while the rest is made.
func TestStack(t *testing.T) {
	wantEdges(t, api.ErrStack, []edge{
		{"lists", 17, func(n int) string { return fun(behind(31, ones(n))) }},
		{"lists in the middle", 28, func(n int) string { return fun("(len (array num " + times(20, "1") + ones(n) + times(11, "1") + "))") }},
		{"lists at first", 1, func(n int) string { return fun("(len (array num " + behind(47, ones(n)) + times(31, "1") + "))") }},
		{"calls", 3, func(n int) string { return funG + fun(nest(9, "(g 1 1 1 1 1 ", ones(n), ")")) }},
		{"applies", 6, func(n int) string { return funG + fun(nest(7, "(call g 1 1 1 1 1 ", ones(n), ")")) }},
		{"operations", 12, func(n int) string { return fun(nest(36, "(add 1 ", ones(n), ")")) }},
		{"makes", 3, func(n int) string {
			inner := []string{"(E)", "(X 1)", "(Y 1 1)", "(Z 1 1 1)", "(R 1 1 1 (X 1))", "(R 1 1 1 (Y 1 1))"}[n]
			return "(type T (E) (R num num num T) (X num) (Y num num) (Z num num num)) (fun f () T " + nest(15, "(R 1 1 1 ", inner, ")") + ")"
		}},
		{"in an if's second", 17, func(n int) string { return fun("(if 1 " + behind(31, ones(n)) + " 1)") }},
		{"in an if's third", 17, func(n int) string { return fun("(if 1 1 " + behind(31, ones(n)) + ")") }},
		{"in an arm", 17, func(n int) string { return fun("(match (P 1 2 3 4) ((P a b c d) " + behind(31, ones(n)) + "))") }},
		{"in a let's last", 17, func(n int) string { return fun("(let x 1 " + behind(31, ones(n)) + ")") }},
		{"in a const", 17, func(n int) string { return "(const c num " + behind(31, ones(n)) + ")" }},
		{"in a Lambda", 17, func(n int) string { return fun("(call (fn () num " + behind(31, ones(n)) + "))") }},
		{"in a Lambda that takes along", 17, func(n int) string { return fun("(let x 1 (call (fn () num (add x " + behind(30, ones(n)) + "))))") }},
	})
}

// P16.1, MaxStack: what one expression needs on the stack, behind others that wait.
func TestStackOfOne(t *testing.T) {
	var l []edge
	for inner, needs := range map[string]int{
		"1": 1, "(len \"\")": 1, "c": 1, "n.c": 1, "(let x 1 x)": 1, "(if 1 2 3)": 1, "(neg 1)": 1, "(add 1 2)": 2, "(at \"\" 1)": 2, "(len (cut \"\" 1 2))": 3, "(len (array num))": 1, "(len (array num 1))": 1, "(len (array num 1 2 3 4 5))": 5, "(match (Q) ((Q) 1))": 1, "(match (P 1 2 3 4) ((P x y z w) 1))": 4,
		"(match p ((P x y z w) 1))": 4, "(match q ((Q) 1))": 1, "(match r ((R) 1) ((S x y z) 2))": 3, "(match r ((S x y z) 2) ((R) 1))": 3, "(call (fn () num 1))": 1, "(call (fn ((x num)) num x) 1)": 2, "(call g 1 2 3 4 5 6)": 7, "(g 1 2 3 4 5 6)": 6, "(h)": 1, "(call h)": 1, "(let x g 1)": 1, "(if (add 1 2) 1 1)": 2, "(if 1 (add 1 2) 1)": 2, "(if 1 1 (add 1 2))": 2, "(let x (add 1 2) 3)": 2, "(let x 1 (add 1 2))": 2,
		"(let x (fn () num 1) 1)": 1, "(let x 1 (let y (fn () num x) 1))": 1, "(let x 1 (let y 2 (let z (fn () num (add x y)) 1)))": 2, "(let x 1 (let y 2 (let z 3 (call (fn () num (add x (add y z)))))))": 3, "(let x 1 (let y 2 (let z 3 (call (fn ((w num)) num (add x (add y z))) 1))))": 3, "(add (add 1 2) 3)": 2, "(add 1 (add 2 3))": 3,
	} {
		l = append(l, edge{inner, 48 - needs, func(n int) string {
			return "(import n c) (const c num 1) (type Q (Q)) (type R (R) (S num num num)) (fun h () num 1)" + funG + typeP + "(fun f ((p P) (q Q) (r R)) num " + behind(n, inner) + ")"
		}})
	}
	wantEdges(t, api.ErrStack, l)
}

// P16.1, MaxStack: what a Lambda takes along.
func TestStackOfTakenAlong(t *testing.T) {
	wantEdges(t, api.ErrStack, []edge{
		{"many", 20, func(n int) string {
			return typeP + "(fun h () num 1) (fun f () num " + binds(22, "a", "(len (array (fn () num) "+times(28, "h")+" (fn () num "+names(n, "a")+")))") + ")"
		}},
		{"behind many", 28, func(n int) string { return fun(binds(20, "a", behind(n, "(call (fn () num "+names(20, "a")+"))"))) }},
		{"by a Lambda in it", 28, func(n int) string {
			return fun(binds(20, "a", behind(n, "(call (fn () num (call (fn () num "+names(20, "a")+"))))")))
		}},
		{"in a Lambda", 28, func(n int) string {
			return fun("(call (fn () num " + binds(20, "a", behind(n, "(call (fn () num "+names(20, "a")+"))")) + "))")
		}},
	})
}

// P16.1, MaxStack: what is taken off the stack is not counted on.
func TestStackFalls(t *testing.T) {
	full := behind(31, ones(17))
	for _, items := range []string{
		"(fun f () num (if " + full + " " + full + " " + full + "))",
		"(fun f () num (let x " + full + " " + full + "))",
		"(fun f () num (add " + full + " (if 1 (let x 2 3) (let x 4 " + behind(30, ones(17)) + "))))",
		"(fun f () num (if 1 (if 1 " + full + " " + full + ") (if 1 " + full + " " + full + ")))",
		"(type T (A num num) (B) (C num)) (fun f ((t T)) num (match t ((A x y) " + full + ") ((B) " + full + ") ((C x) " + full + ")))",
		"(type T (A num num) (B) (C num)) (fun f () num (match (let x " + full + " (A x x)) ((C x) " + full + ") ((A x y) (add x " + behind(30, ones(17)) + ")) ((B) (neg " + full + "))))",
		"(fun f () num (call (fn () num " + full + ")))",
		"(fun f () (array num) (array num " + full + "))",
		"(fun f () (array num) (array num " + times(10, "(if 1 2 3) (match (A) ((A) 1) ((B x) x)) (let x 1 x)") + ")) (type T (A) (B num))",
	} {
		wantObject(t, read(t, "(module m "+items+")"), nil)
	}
}

// P16.1, MaxCode: each function by itself.
func TestCode(t *testing.T) {
	row := func(n int) string {
		return "(array bytes " + times(10, "\""+strings.Repeat("x", 200)+"\"") + " \"" + strings.Repeat("y", n) + "\")"
	}
	wantEdges(t, api.ErrLong, []edge{
		{"in a function", 12, func(n int) string { return "(fun f () (array bytes) " + row(n) + ")" }},
		{"in a const", 12, func(n int) string { return "(const c (array bytes) " + row(n) + ")" }},
		{"in a Lambda", 12, func(n int) string { return fun("(len (call (fn () (array bytes) " + row(n) + ")))") }},
		{"with an if", 1, func(n int) string { return "(fun f ((x num)) (array bytes) (if x " + row(n) + " (array bytes)))" }},
		{"with a match", 194, func(n int) string {
			long := strings.Replace(row(n), "\""+strings.Repeat("x", 200)+"\"", "", 1)
			return "(type T (A) (B num num)) (fun f ((t T)) (array bytes) (match t ((B x y) (array bytes)) ((A) " + long + ")))"
		}},
		{"in the third function", 12, func(n int) string { return fun("1") + "(fun g () num 1) (fun h () (array bytes) " + row(n) + ")" }},
	})
	o := wantObject(t, read(t, "(module m (fun f () (array bytes) "+row(12)+"))"), nil)
	if len(o.Funs[0].Code) != api.MaxCode {
		t.Errorf("%d bytes", len(o.Funs[0].Code))
	}
	numbers := times(16, "(len (array num "+times(16, "1048576-1048576i")+"))")
	for _, body := range []string{"(len (array num " + numbers + "))", "(if 1 2 (len (array num " + numbers + ")))", "(if 1 (len (array num " + numbers + ")) 2)", "(let x (len (array num " + numbers + ")) (if x 1 2))", "(match (P 1 2 3 4) ((P a b c d) (len (array num " + numbers + "))))"} {
		wantRefused(t, read(t, "(module m "+fun(body)+")"), nil, api.ErrLong)
	}
}

// P16.1, MaxObject: what is imported counts, too.
func TestObjectLength(t *testing.T) {
	long := strings.Repeat("[", 98) + "num" + strings.Repeat("]", 98)
	source := "(module m (import n A Bigger"
	shown := api.Iface{Module: "n"}
	for _, name := range []string{"A", "Bigger"} {
		shown.Items = append(shown.Items, typeItem(name, caseOf("X", long, long, long, long), caseOf("Y", long, long, long, long), caseOf("Z", long, long, long, long)))
	}
	for k := range 16 {
		shown.Items = append(shown.Items, constItem(fmt.Sprintf("c%02d", k), long))
		source += " " + shown.Items[2+k].Name
	}
	m := read(t, source+"))")
	most, refused := 0, 0
	for n := range 196 {
		shown.Items[2].Type = strings.Repeat("[", n/2) + "q.T" + strings.Repeat("a", n%2) + strings.Repeat("]", n/2)
		l := []api.Iface{shown}
		if _, why := lower.Module(m, l); why != api.OK {
			wantRefused(t, m, l, api.ErrLong)
			refused++
			continue
		}
		b, _ := object.Encode(wantObject(t, m, l))
		most = max(most, len(b))
	}
	if most != api.MaxObject || refused == 0 {
		t.Errorf("the longest object has %d bytes, %d are refused", most, refused)
	}
}
