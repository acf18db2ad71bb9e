package compile_test

import (
	"fmt"
	"slices"
	"strings"
	"testing"

	"hawser/api"
	"hawser/compile"
	"hawser/iface"
	"hawser/parse"
)

// wrong is a source that is refused, at the place of its @, or at 0.
type wrong struct {
	marked string
	why    api.Errno
	name   string
}

func (w wrong) source() string { return strings.Replace(w.marked, "@", "", 1) }

func (w wrong) at() int { return max(strings.Index(w.marked, "@"), 0) }

// within is a module of some items.
func within(items string) string { return "(module m " + items + ")" }

func lets(n int) string {
	body := "1"
	for k := range n {
		body = fmt.Sprintf("(let a%d 1 %s)", k, body)
	}
	return body
}

// each is a text for each number, in which # is that number.
func each(n int, text string) string {
	s := ""
	for k := range n {
		s += strings.ReplaceAll(text, "#", fmt.Sprint(k)) + " "
	}
	return s
}

// nested is a type's source, whose text has 178 bytes, and two more for each array around it.
func nested(arrays int) string {
	six := "(fn (num num num num num num) num)"
	return strings.Repeat("(array ", arrays) + "(fn (" + strings.Repeat(six+" ", 6) + ") num)" + strings.Repeat(")", arrays)
}

// unread are sources that parse.Module refuses: by their signs, their brackets, their forms.
func unread() []wrong {
	return []wrong{
		{"@" + strings.Repeat(" ", 8193), api.ErrLong, ""}, {within("(const a bytes \"@\\q\")"), api.ErrForm, ""}, {within("(const a bytes @\"xx)"), api.ErrEnd, ""}, {within("@\x7f"), api.ErrForm, ""}, {within("(const a bytes @\"" + strings.Repeat("x", 201) + "\")"), api.ErrLong, ""},
		{"@", api.ErrForm, ""}, {"; a remark@", api.ErrForm, ""}, {"(module m@", api.ErrEnd, ""}, {"(module m)@)", api.ErrForm, ""}, {"(module m) @x", api.ErrTail, ""}, {"(module m) @(module m)", api.ErrTail, ""}, {within(strings.Repeat("(", 39) + "@(" + strings.Repeat(")", 40)), api.ErrNest, ""},
		{"@m", api.ErrForm, ""}, {" @()", api.ErrForm, ""}, {"@(module)", api.ErrForm, ""}, {"@(modul m)", api.ErrForm, ""}, {"@(\"module\" m)", api.ErrForm, ""}, {"(module @M)", api.ErrName, ""}, {"(module @9)", api.ErrName, ""}, {"@(module \"m\")", api.ErrForm, ""}, {"(module @abcdefghijklmnopqrstuvwxy)", api.ErrName, ""},
		{within("@x"), api.ErrForm, ""}, {within("@(let x)"), api.ErrForm, ""}, {within("(fun @F () num 1)"), api.ErrName, ""}, {within("(type T (A @9))"), api.ErrForm, ""}, {within("@(type T " + each(7, "(A#)") + ")"), api.ErrCount, ""}, {within("(fun f () num @(let x 1))"), api.ErrForm, ""}, {within("(fun f () num (let @len 1 2))"), api.ErrName, ""},
		{within("(const c @" + nested(12) + " 1)"), api.ErrLong, ""}, {within("(export" + strings.Repeat(" x", 33) + ")"), api.ErrMany, ""}, {within("(import @T x)"), api.ErrName, ""},
	}
}

// untyped are sources that sema.Module refuses: by their names, their exports, their expressions.
func untyped() []wrong {
	two := "(type T (A) (B num)) "
	return []wrong{
		{within("(type T (A)) (type T (B))"), api.ErrTaken, "T"}, {within("(type T (A) (A))"), api.ErrTaken, "A"}, {within("(const f num 1) (fun f () num 1)"), api.ErrTaken, "f"}, {within("(import n c c)"), api.ErrTaken, "n.c"}, {within("(import m f) (fun f () num 1)"), api.ErrName, "m"},
		{within("(import q x)"), api.ErrNone, "q.x"}, {within("(import n c x y)"), api.ErrNone, "n.x"}, {within("(import n e)"), api.ErrNone, "n.e"}, {within("(type T (A U))"), api.ErrType, "m.U"}, {within("(fun f ((x n.T)) num 1)"), api.ErrType, "n.T"}, {within("(const c " + nested(11) + " 1)"), api.ErrLong, "c"}, {within("(fun f ((x " + nested(10) + ")) num 1)"), api.ErrLong, "f"},
		{within("(export q)"), api.ErrNone, ""}, {within("(export f f) (fun f () num 1)"), api.ErrTaken, ""}, {within("(import n c) (export c)"), api.ErrNone, ""},
		{within("(const a num @b) (const b num 1)"), api.ErrName, "a"}, {within("(const a num @\"\")"), api.ErrType, "a"}, {within("(fun f () num @q)"), api.ErrName, "f"}, {within("(fun f () num @n.c)"), api.ErrName, "f"}, {within("(fun f () bytes @1)"), api.ErrType, "f"}, {within("(fun f () num 1) (fun g () num (add 1 @\"\"))"), api.ErrType, "g"},
		{within("(fun f () num (if @\"\" 1 2))"), api.ErrType, "f"}, {within("(fun f () num @(if 1 1 \"\"))"), api.ErrType, "f"}, {within("(fun f () num @(f 1))"), api.ErrCount, "f"}, {within("(fun f () num @(add 1))"), api.ErrCount, "f"}, {within(two + "(fun f () T @(B))"), api.ErrCount, "f"}, {within("(fun f () num (call @1))"), api.ErrType, "f"},
		{within(two + "(fun f ((t T)) num @(match t ((A) 1)))"), api.ErrCover, "f"}, {within(two + "(fun f ((t T)) num @(match t ((A) 1) ((A) 2) ((B x) 1)))"), api.ErrTaken, "f"}, {within(two + "(fun f ((t T)) num @(match t ((A) 1) ((B) 1)))"), api.ErrCount, "f"}, {within(two + "(fun f ((t T)) num (match t ((A) 1) ((B x) @\"\")))"), api.ErrType, "f"}, {within("(const a (fn () num) (fn () num @\"\"))"), api.ErrType, "a"},
	}
}

// much are definitions of names that nobody else has, of which no object can be made.
func much() []wrong {
	row := "(array bytes" + strings.Repeat(" \""+strings.Repeat("x", 200)+"\"", 11) + ")"
	ones := "(len (array num" + strings.Repeat(" 1", 32) + "))"
	return []wrong{
		{"(fun much () num " + lets(25) + ")", api.ErrMany, ""},
		{"(fun much () (array (fn () num)) (array (fn () num) " + each(25, "much0") + ")) (fun much0 () num 1)" + each(20, "(fun much1# () num (call (fn () num (call (fn () num 1)))))"), api.ErrMany, ""},
		{"(const much num (len (array num" + strings.Repeat(" 1", 31) + " (len (array num" + strings.Repeat(" 1", 17) + "))))) ", api.OK, ""},
		{"(const much num (len (array num" + strings.Repeat(" 1", 31) + " " + ones + ")))", api.ErrStack, ""},
		{"(fun much () (array bytes) " + row + ")", api.ErrLong, ""},
	}
}

// P17.1: what parse.Module refuses, at its place.
func TestUnread(t *testing.T) {
	for _, one := range unread() {
		wantRefused(t, one.source(), nil, one.why, one.at(), "")
		if _, why, at := parse.Module(one.source()); why != one.why || at != one.at() {
			t.Errorf("%.300s: parse: %v at %d", one.source(), why, at)
		}
	}
}

// P17.1: what sema.Module refuses, with its place and name.
func TestUntyped(t *testing.T) {
	for _, one := range untyped() {
		wantRefused(t, one.source(), others(), one.why, one.at(), one.name)
	}
}

// P17.1: what types and is too much to be made, at 0.
func TestMuch(t *testing.T) {
	for _, one := range much() {
		if one.why == api.OK {
			wantMade(t, within(one.marked), nil)
			continue
		}
		wantRefused(t, within(one.marked), nil, one.why, 0, "")
		wantRefused(t, " ; a remark\n"+within("(const a num 1) (fun f () num 1)"+one.marked+"(export f)"), others(), one.why, 0, "")
	}
}

// P17.1: at each bound a module is made, and past it, not.
func TestBounds(t *testing.T) {
	funs := func(n int) string { // 24 with a name
		return each(24, "(fun f# () num 1)") + "(const c (array (fn () num)) (array (fn () num)" + strings.Repeat(" (fn () num 1)", n-25) + "))"
	}
	wantMade(t, within("(fun f () num "+lets(24)+")"), nil)
	wantRefused(t, within("(fun f () num "+lets(25)+")"), nil, api.ErrMany, 0, "")
	wantMade(t, within(funs(48)), nil)
	wantRefused(t, within(funs(49)), nil, api.ErrMany, 0, "")
	code := func(n int) string {
		return "(fun f () (array bytes) (array bytes" + strings.Repeat(" \""+strings.Repeat("x", 200)+"\"", 10) + " \"" + strings.Repeat("y", n) + "\"))"
	}
	wantMade(t, within(code(12)), nil)
	wantRefused(t, within(code(13)), nil, api.ErrLong, 0, "")
}

// P17.1: the longest objects have 8192 bytes: what is imported counts, too.
func TestLongestObject(t *testing.T) {
	long := strings.Repeat("[", 98) + "num" + strings.Repeat("]", 98)
	full := caseOf("X", long, long, long, long)
	items := []api.Item{typeItem("A", full, caseOf("Y", full.Fields...), caseOf("Z", full.Fields...)), typeItem("Bigger", full, caseOf("Y", full.Fields...), caseOf("Z", full.Fields...))}
	source := "(module m (import n A Bigger"
	for k := range 16 {
		items = append(items, constItem(fmt.Sprintf("c%02d", k), long))
		source += " " + items[2+k].Name
	}
	most, refused := 0, 0
	for n := range 196 {
		items[2].Type = strings.Repeat("[", n/2) + "q.T" + strings.Repeat("a", n%2) + strings.Repeat("]", n/2)
		ifaces := [][]byte{shown("n", items...)}
		if compile.Source(source+"))", ifaces).Why != api.OK {
			wantRefused(t, source+"))", ifaces, api.ErrLong, 0, "")
			refused++
			continue
		}
		most = max(most, len(wantMade(t, source+"))", ifaces).Object))
	}
	if most != api.MaxObject || refused == 0 {
		t.Errorf("the longest object has %d bytes, %d are refused", most, refused)
	}
}

// torn are bytes that are no interface.
func torn() map[string]api.Errno {
	name := func(n int) string { return string(rune(n)) + strings.Repeat("a", n) }
	const head = "\x01m\x01"
	l := map[string]api.Errno{
		"": api.ErrEnd, "\x01": api.ErrEnd, "\x09": api.ErrEnd, "\x01m": api.ErrEnd, "\x01m\x01": api.ErrEnd, "\x01m\x00\x00": api.ErrTail, "\x80\x00": api.ErrForm, name(25) + "\x00": api.ErrLong, "\x01M\x00": api.ErrName, "\x00\x00": api.ErrName,
		head + "\x04\x01a\x03num": api.ErrForm, head + "\x02\x01A\x03num": api.ErrName, head + "\x02\x01a\x03nun": api.ErrType, head + "\x01\x01T\x00": api.ErrForm, head + "\x01\x01T\x01\x01A\x05" + strings.Repeat("\x03num", 5): api.ErrCount, head + "\x02\x01a\xc9\x01" + strings.Repeat("x", 201): api.ErrLong,
		"\x01m\x02" + strings.Repeat("\x02\x01a\x03num", 2): api.ErrName, "\x01m\x21": api.ErrEnd,
	}
	many := "\x01m\x21"
	for k := range 33 {
		many += "\x02\x03a" + fmt.Sprintf("%02d", k) + "\x03num"
	}
	l[many] = api.ErrMany
	return l
}

// P17.1: what iface.Decode refuses of the first one, with its number, and no place in it.
func TestTorn(t *testing.T) {
	for b, why := range torn() {
		if _, got, _ := iface.Decode([]byte(b)); got != why {
			t.Errorf("%x: %v, want %v", b, got, why)
		}
		for k := range 5 {
			ifaces := slices.Insert(others(), k, []byte(b))
			wantRefused(t, "(module m)", ifaces, why, k, "")
			for other := range torn() {
				wantRefused(t, "(module m)", append(ifaces, []byte(other)), why, k, "")
			}
		}
	}
	wantRefused(t, "(module m)", [][]byte{nil}, api.ErrEnd, 0, "")
	wantRefused(t, "(module m)", [][]byte{shown("n"), {}, nil}, api.ErrEnd, 1, "")
	many := slices.Repeat([][]byte{shown("n")}, 1000)
	wantMade(t, "(module m)", many)
	wantRefused(t, "(module m)", append(many, []byte{9}), api.ErrEnd, 1000, "")
}

// P17.1: of two refusals the one of the step ahead is told.
func TestOrder(t *testing.T) {
	for b, torn := range torn() {
		ifaces := append(others(), []byte(b))
		for _, one := range unread() {
			wantRefused(t, one.source(), ifaces, one.why, one.at(), "")
		}
		for _, one := range untyped() {
			wantRefused(t, one.source(), ifaces, torn, 4, "")
		}
		for _, one := range much() {
			wantRefused(t, within(one.marked), ifaces, torn, 4, "")
		}
	}
	for _, too := range much() {
		for _, one := range untyped() {
			both := wrong{strings.TrimSuffix(one.marked, ")") + too.marked + ")", one.why, one.name}
			wantRefused(t, both.source(), others(), one.why, both.at(), one.name)
		}
		wantRefused(t, "(module m "+too.marked, others(), api.ErrEnd, len("(module m "+too.marked), "")
	}
}

// P17.1: interfaces that lack what is imported, or that show something unlike it.
func TestUnlikeInterfaces(t *testing.T) {
	one := wrong{marked: "(module m (import n T c f) (export g) (fun g ((t n.T)) num (match t ((n.P x) (add x n.c)) ((n.Q) (match (n.f 1) ((n.P x) x) ((n.Q) 0))))))"}
	typeT, c, f := typeItem("T", caseOf("P", "num"), caseOf("Q")), constItem("c", "num"), funItem("f", "(num)n.T")
	wantMade(t, one.source(), [][]byte{shown("n", typeT, c, f)})
	match, inner, call := "(match t", "(match (n.f", "(n.f"
	for _, c := range []struct {
		items []api.Item
		why   api.Errno
		at    string // what stands there; empty, if it is 0
		name  string
	}{
		{nil, api.ErrNone, "", "n.T"}, {[]api.Item{typeT}, api.ErrNone, "", "n.c"}, {[]api.Item{typeT, c}, api.ErrNone, "", "n.f"}, {[]api.Item{c, f}, api.ErrNone, "", "n.T"},
		{[]api.Item{typeT, constItem("c", "bytes"), f}, api.ErrType, "n.c))", "g"}, {[]api.Item{typeT, c, constItem("f", "num")}, api.ErrName, call, "g"}, {[]api.Item{typeT, c, funItem("f", "()n.T")}, api.ErrCount, call, "g"}, {[]api.Item{typeT, c, funItem("f", "(bytes)n.T")}, api.ErrType, "1) ((n.P", "g"}, {[]api.Item{typeT, c, funItem("f", "(num)num")}, api.ErrType, call, "g"},
		{[]api.Item{typeItem("T", caseOf("P", "num"), caseOf("Q"), caseOf("R")), c, f}, api.ErrCover, inner, "g"}, {[]api.Item{typeItem("T", caseOf("P", "bytes"), caseOf("Q")), c, f}, api.ErrType, "x n.c", "g"}, {[]api.Item{typeItem("T", caseOf("P"), caseOf("Q")), c, f}, api.ErrCount, match, "g"}, {[]api.Item{typeItem("T", caseOf("Q")), c, f}, api.ErrName, match, "g"},
	} {
		wantRefused(t, one.source(), append([][]byte{shown("n", c.items...)}, others()...), c.why, strings.Index(one.marked, c.at), c.name)
	}
	wantRefused(t, one.source(), nil, api.ErrNone, 0, "n.T")
	wantRefused(t, one.source(), others()[1:2], api.ErrNone, 0, "n.T")
}

// R3: a refused call leaves nothing behind for a later one.
func TestRefusedLeavesNothing(t *testing.T) {
	for source := range ordinaries() {
		want := wantMade(t, source, others())
		for _, one := range slices.Concat(unread(), untyped(), much()) {
			compile.Source(one.source(), others())
			compile.Source(source, [][]byte{{1}})
		}
		if got := wantMade(t, source, others()); told(got) != told(want) {
			t.Fatalf("%s: %s, was %s", source, told(got), told(want))
		}
	}
}
