package compile_test

import (
	"bytes"
	"fmt"
	"slices"
	"testing"

	"hawser/api"
	"hawser/compile"
	"hawser/iface"
	"hawser/lower"
	"hawser/object"
	"hawser/parse"
)

func caseOf(name string, fields ...string) api.Case { return api.Case{Name: name, Fields: fields} }

func typeItem(name string, cases ...api.Case) api.Item {
	return api.Item{Kind: api.Type, Name: name, Cases: cases}
}

func constItem(name, of string) api.Item { return api.Item{Kind: api.Const, Name: name, Type: of} }

func funItem(name, of string) api.Item { return api.Item{Kind: api.Fun, Name: name, Type: of} }

// shown are the bytes of an interface.
func shown(module string, items ...api.Item) []byte {
	b, why := iface.Encode(api.Iface{Module: module, Items: items})
	if why != api.OK {
		panic(fmt.Sprintf("%s: %v", module, why))
	}
	return b
}

// others are interfaces, of which some name types that nobody shows.
func others() [][]byte {
	return [][]byte{
		shown("n",
			typeItem("T", caseOf("P", "num"), caseOf("Q")), typeItem("U", caseOf("One", "n.T", "k.W", "[bytes]", "()num")),
			constItem("c", "num"), constItem("d", "[k.W]"), funItem("f", "(num)n.T"), funItem("h", "()k.W"), funItem("two", "(n.T,(num)num)num"),
		),
		shown("k", typeItem("V", caseOf("A"), caseOf("B", "k.V")), constItem("c", "bytes")),
		shown("n", constItem("c", "bytes"), constItem("e", "num")), // the first one of its name counts
		shown("m", typeItem("T", caseOf("A", "bytes")), constItem("f", "bytes"), constItem("g", "m.T")),
	}
}

// ordinaries are modules of each form at least once, each with its name.
func ordinaries() map[string]string {
	types := "(type T (A) (B num bytes) (C T (array T) num num)) (type U (F (fn (num) num))) "
	return map[string]string{
		"(module m)": "m", "(module m (export))": "m", "(module m (import n))": "m", "(module m (import n T U c d f h two) (import k V c))": "m",
		"(module m " + types + ")": "m", "(module other (export U T) " + types + ")": "other",
		"(module m (type Z (ZZ)) (type B (BB Z)) (type A0 (AA (array B))) (export Z B) (export A0))":                                                                               "m",
		"(module m (const a num 1) (const b bytes \"x\") (const c num (add a (len b))) (export c a))":                                                                              "m",
		"; a remark\n(module _m9 (export g f) (fun g () num 1-2i) ; and one\n (fun f ((x num) (y bytes)) num (g)))\n":                                                              "_m9",
		"(module m (const a num (f)) (fun f () num b) (const b num 1))":                                                                                                            "m",
		"(module m (fun f ((x num)) num (let x (add x 1) (let x (mul x x) (sub x 1)))))":                                                                                           "m",
		"(module m (fun f ((x num)) num (if x (if (lt x 0) 1 2) (if (eq x 0) 3 (neg 4)))))":                                                                                        "m",
		"(module m (fun f ((y (array bytes))) (array bytes) (cat (array bytes (at y 0) (cut \"abc\" 0 1)) (array bytes))))":                                                        "m",
		"(module m (export T f) " + types + "(fun f () T (C (A) (array T (B 1 \"\\x00\\n\") (A)) 1 2)))":                                                                           "m",
		"(module m (export f) " + types + "(fun f ((t T)) num (match t ((C t l x y) (add (f t) (len l))) ((A) 0) ((B x y) x))))":                                                   "m",
		"(module m (fun f ((x num)) (fn () (fn () num)) (fn () (fn () num) (fn () num (add x x)))))":                                                                               "m",
		"(module m (const a num 2) (const b (fn (num) num) (fn ((x num)) num (mul a x))) (export b) (fun f () num (call b 3)))":                                                    "m",
		"(module m (fun f () (fn (num) num) g) (fun g ((x num)) num x) (fun h ((x num)) num (call (f) (call g (g x)))))":                                                           "m",
		"(module m (import n U T c f) (export g) (fun g ((u n.U)) num (match u ((n.One t w b f) (match t ((n.P x) (add x (call f))) ((n.Q) (call (fn () num (let y w n.c)))))))))": "m",
		"(module m (import n d f h two T) (export a) (fun g () num (let w (n.h) (n.two (n.f 1) (fn ((x num)) num (let u (at n.d 0) x))))) (const a (fn (num) n.T) n.f))":           "m",
		"(module m (import k V c) (import n c) (export f v) (const v k.V (k.B (k.A))) (fun f ((v k.V)) num (match v ((k.A) n.c) ((k.B v) (add (len k.c) (f v))))))":                "m",
		"(module abcdefghijklmnopqrstuvwx (export f) (fun f () num 1))":                                                                                                            "abcdefghijklmnopqrstuvwx",
	}
}

// told tells all of a Result.
func told(r compile.Result) string {
	return fmt.Sprintf("%v at %d, name %q, object %x, interface %x", r.Why, r.At, r.Name, r.Object, r.Iface)
}

// wantMade: the source is compiled, and all that is promised of each Result holds of this one.
func wantMade(t testing.TB, source string, ifaces [][]byte) compile.Result {
	t.Helper()
	r := compile.Source(source, ifaces)
	if r.Why != api.OK || r.At != 0 || r.Name != "" {
		t.Fatalf("%.500s: %.500s", source, told(r))
	}
	if object, shown := madeByLayers(t, source, ifaces); !bytes.Equal(r.Object, object) || !bytes.Equal(r.Iface, shown) {
		t.Fatalf("%.500s: %.2000s, want object %x, interface %x", source, told(r), object, shown)
	}
	o, why, _ := object.Decode(r.Object)
	i, also, _ := iface.Decode(r.Iface)
	if seen, _ := object.Iface(o); why != api.OK || also != api.OK || fmt.Sprint(seen) != fmt.Sprint(i) || o.Module != compile.Name(source) {
		t.Fatalf("%.500s: %v, %v: %+v, %+v", source, why, also, o, i)
	}
	wantChecked(t, r.Object, ifaces, api.OK, 0, 0)
	return r
}

// madeByLayers is what the layers beneath make of a source that none of them refuses.
func madeByLayers(t testing.TB, source string, ifaces [][]byte) (made, shown []byte) {
	t.Helper()
	m, why, _ := parse.Module(source)
	if why != api.OK {
		t.Fatalf("%.500s: %v", source, why)
	}
	var l []api.Iface
	for _, b := range ifaces {
		i, why, _ := iface.Decode(b)
		if why != api.OK {
			t.Fatalf("%x: %v", b, why)
		}
		l = append(l, i)
	}
	o, why := lower.Module(m, l)
	if why != api.OK {
		t.Fatalf("%.500s: %v", source, why)
	}
	i, _ := iface.Of(m)
	made, _ = object.Encode(o)
	shown, _ = iface.Encode(i)
	return made, shown
}

// wantRefused: the source is refused, with nothing beside it, and again so.
func wantRefused(t testing.TB, source string, ifaces [][]byte, why api.Errno, at int, name string) {
	t.Helper()
	for range 2 {
		r := compile.Source(source, ifaces)
		if r.Why != why || r.At != at || r.Name != name || len(r.Object)+len(r.Iface) > 0 {
			t.Errorf("%.500s: %.500s, want %v at %d, name %q", source, told(r), why, at, name)
		}
	}
}

// wantChecked: an object is let by, or refused, and again so.
func wantChecked(t testing.TB, object []byte, ifaces [][]byte, why api.Errno, n, at int) {
	t.Helper()
	for range 2 {
		if gotWhy, gotN, gotAt := compile.Check(object, ifaces); gotWhy != why || gotN != n || gotAt != at {
			t.Errorf("%.500x: %v, %d, %d, want %v, %d, %d", object, gotWhy, gotN, gotAt, why, n, at)
		}
	}
}

// The chapter's runs.
func TestRuns(t *testing.T) {
	r := wantMade(t, "(module m)", nil)
	if !bytes.Equal(r.Object, []byte{1, 'm', 0, 0, 0, 0, 0, 0, 0}) || !bytes.Equal(r.Iface, []byte{1, 'm', 0}) {
		t.Error(told(r))
	}
	wantRefused(t, "(module m (fun f () num x))", nil, api.ErrName, 24, "f")
}

// The chapter's examples.
func TestExamples(t *testing.T) {
	for source := range ordinaries() {
		want := wantMade(t, source, others())
		more := slices.Concat(others(), [][]byte{shown("q", constItem("c", "num")), shown("m"), shown("n", constItem("x", "n.T")), shown("n")})
		if got := wantMade(t, source, more); told(got) != told(want) {
			t.Errorf("%s: %s, want %s", source, told(got), told(want))
		}
	}
	if got := compile.Name("(module 9)"); got != "" {
		t.Errorf("the name is %s", got)
	}
}

// P17.1, P17.3: ordinary sources.
func TestOrdinary(t *testing.T) {
	for source, name := range ordinaries() {
		wantMade(t, source, others())
		if got := compile.Name(source); got != name {
			t.Errorf("%s: the name is %q, want %s", source, got, name)
		}
	}
}

// P17.1: what is made of a source with each kind of definition.
func TestMade(t *testing.T) {
	r := wantMade(t, "(module m (import n c) (export f T a) (type T (A) (B num)) (const a bytes \"q\") (fun f ((x num)) (fn (num) T) (fn ((y num)) T (B (add (add x y) n.c)))) (fun g ((t T)) num (match t ((B x) x) ((A) 0))))", others())
	want := shown("m", typeItem("T", caseOf("A"), caseOf("B", "num")), constItem("a", "bytes"), funItem("f", "(num)(num)m.T"))
	if !bytes.Equal(r.Iface, want) {
		t.Errorf("interface %x, want %x", r.Iface, want)
	}
	o, _, _ := object.Decode(r.Object)
	got := fmt.Sprint(o.Module, o.Types, o.Exports, object.Imports(o))
	for _, f := range o.Funs {
		got += fmt.Sprintf(" %s%s", f.Name, object.Sign(f))
	}
	if want := "m[{1 T  [{A []} {B [num]}]}] [T a f] [n] f(num)(num)m.T g(m.T)num (num)m.T ()bytes"; got != want {
		t.Errorf("%s, want %s", got, want)
	}
}

// P17.1, W3: modules that are compiled one behind the other, each against what those ahead of it show.
func TestOneBehindTheOther(t *testing.T) {
	var ifaces [][]byte
	var objects [][]byte
	for _, source := range []string{
		"(module a (export T f c) (type T (A) (B num (array T))) (const c num 3) (fun f ((x num)) T (B x (array T (A)))))",
		"(module b (import a T f c) (export g T) (type T (A a.T)) (fun g ((t T)) num (match t ((A t) (match t ((a.A) a.c) ((a.B x l) (add x (len l))))))))",
		"(module c (import b T g) (import a T f) (export h) (fun h ((x num)) num (b.g (b.A (a.f x)))))",
		"(module d (import c h) (export k) (const k (array (fn (num) num)) (array (fn (num) num) c.h (fn ((x num)) num (c.h (c.h x))))))",
	} {
		r := wantMade(t, source, ifaces)
		ifaces, objects = append(ifaces, r.Iface), append(objects, r.Object)
	}
	for _, b := range objects {
		backwards := slices.Clone(ifaces)
		slices.Reverse(backwards)
		wantChecked(t, b, backwards, api.OK, 0, 0)
	}
	wantChecked(t, objects[0], nil, api.OK, 0, 0)
	for k, l := range map[int][][]byte{1: nil, 2: ifaces[1:2], 3: ifaces[:2]} {
		if why, _, _ := compile.Check(objects[k], l); why != api.ErrNone {
			t.Errorf("object %d with few interfaces: %v", k, why)
		}
	}
}

// P17.1: a module's own interface, handed in too, changes nothing, whether it is as the source says or not; and it may not import from itself.
func TestOwnInterface(t *testing.T) {
	source := "(module m (import n c) (export f T) (type T (A) (B num)) (fun f ((x num)) T (B (add x n.c))))"
	want := wantMade(t, source, others()[:1])
	for _, own := range [][]byte{want.Iface, shown("m"), shown("m", typeItem("T", caseOf("A", "bytes")), constItem("f", "bytes"))} {
		for _, ifaces := range [][][]byte{append(others()[:1:1], own), append([][]byte{own}, others()[0])} {
			if got := wantMade(t, source, ifaces); told(got) != told(want) {
				t.Errorf("%s, want %s", told(got), told(want))
			}
		}
		wantRefused(t, "(module m (import m f))", [][]byte{own}, api.ErrName, 0, "m")
	}
}
