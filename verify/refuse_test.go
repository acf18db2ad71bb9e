package verify_test

import (
	"strconv"
	"strings"
	"testing"

	"hawser/api"
	"hawser/object"
	"hawser/verify"
)

// each is one of each instruction, with what it needs ahead of it, all of a function that takes a num, an m.T and a ()num.
var each = []struct{ needs, one string }{
	{"", "push"},
	{"", "lit"},
	{"", "load 0"},
	{"push; ", "store 0"},
	{"", "jump end"},
	{"push; ", "zero end"},
	{"push; push; ", "do add"},
	{"push; ", "do neg"},
	{"lit; push; push; ", "do cut"},
	{"push; ", "array 1 num"},
	{"push; lit; ", "build 1 m.T"},
	{"load 1; ", "switch m.T end end"},
	{"push; lit; ", "call m.g"},
	{"", "global m.c"},
	{"lit; ", "close 1 #2"},
	{"load 2; ", "apply 0"},
	{"push; ", "ret"},
}

func of(text string) fn { return fn{params: "num m.T ()num", result: "num", more: 1, text: text} }

// P15.2: no instruction stands where nothing comes, or where stacks are unlike, whatever else is wrong with it.
func TestNoState(t *testing.T) {
	wrong := []struct{ needs, one string }{{"", "load 3"}, {"", "load 99"}, {"", "store 99"}, {"", "store 0"}, {"", "jump 99"}, {"", "zero 99"}, {"", "zero end"}, {"", "do 13"}, {"", "do add"}, {"", "array 1 99"}, {"", "array 1 num"}, {"", "build 9 m.T"}, {"", "build 0 m.c"}, {"", "switch m.c end"}, {"", "switch m.T end"}, {"", "switch m.T end end"}, {"", "call m.c"}, {"", "call m.g"}, {"", "global m.g"}, {"", "close 9 m.g"}, {"", "close 1 #2"}, {"", "apply 0"}, {"", "ret"}}
	for _, c := range append(wrong, each...) {
		wantTested(t, of("push; ret; !"+c.one+"; end: push; ret"), api.ErrJump)
		wantTested(t, of("jump end; !"+c.one+"; end: push; ret"), api.ErrJump)
		wantTested(t, of("load 1; switch m.T end b; !"+c.one+"; end: push; ret; b: store 0; ret"), api.ErrJump)
		wantTested(t, of("load 0; zero a; "+c.needs+"push; jump b; a: "+c.needs+"lit; !b: "+c.one+"; end: push; ret"), api.ErrJump)
		if c.needs != "" {
			wantTested(t, of("load 0; zero a; "+c.needs+"!a: "+c.one+"; end: push; ret"), api.ErrJump)
		}
	}
}

// P15.2: each instruction that pops, when there is nothing, and when another type is there.
func TestPops(t *testing.T) {
	wantAllRefused(t, []refused{
		{of("!store 0; push; ret"), api.ErrStack},
		{of("!zero a; a: push; ret"), api.ErrStack},
		{of("lit; !zero a; a: push; ret"), api.ErrType},
		{of("load 1; !zero a; a: push; ret"), api.ErrType},
		{of("!array 1 num; ret"), api.ErrStack},
		{of("push; !array 2 num; ret"), api.ErrStack},
		{of("push; push; !array 255 num; ret"), api.ErrStack},
		{of("lit; !array 1 num; ret"), api.ErrType},
		{of("push; !array 1 bytes; ret"), api.ErrType},
		{of("push; lit; !array 2 num; ret"), api.ErrType},
		{of("lit; push; !array 2 num; ret"), api.ErrType},
		{of("lit; push; !array 3 num; ret"), api.ErrType},
		{of("lit; push; !array 255 num; ret"), api.ErrType},
		{of("lit; push; array 1 num; do len; !ret"), api.ErrStack},
		{of("!build 1 m.T; ret"), api.ErrStack},
		{of("lit; !build 1 m.T; ret"), api.ErrStack},
		{of("push; !build 1 m.T; ret"), api.ErrType},
		{of("lit; lit; !build 1 m.T; ret"), api.ErrType},
		{of("push; push; !build 1 m.T; ret"), api.ErrType},
		{of("lit; push; !build 1 m.T; ret"), api.ErrType},
		{of("push; push; push; !build 0 m.One; ret"), api.ErrStack},
		{of("!switch m.T a b; a: ret; b: ret"), api.ErrStack},
		{of("push; !switch m.T a b; a: ret; b: ret"), api.ErrType},
		{of("build 0 n.U; !switch m.T a b; a: ret; b: ret"), api.ErrType},
		{of("load 1; !switch n.U a b; a: ret; b: ret"), api.ErrType},
		{of("!call m.g; ret"), api.ErrStack},
		{of("lit; !call m.g; ret"), api.ErrStack},
		{of("push; !call m.g; ret"), api.ErrType},
		{of("lit; lit; !call m.g; ret"), api.ErrType},
		{of("push; push; !call m.g; ret"), api.ErrType},
		{of("lit; push; !call m.g; ret"), api.ErrType},
		{of("!call n.h; ret"), api.ErrStack},
		{of("lit; !call n.h; ret"), api.ErrType},
		{of("lit; push; lit; push; lit; !call k.wide; ret"), api.ErrStack},
		{of("lit; push; lit; push; lit; push; !call k.wide; ret"), api.ErrType},
		{of("lit; push; lit; !call k.wide; ret"), api.ErrStack},
		{of("!close 1 #2; ret"), api.ErrStack},
		{of("push; !close 1 #2; ret"), api.ErrType},
		{of("!close 2 #5; ret"), api.ErrStack},
		{of("load 1; !close 2 #5; ret"), api.ErrStack},
		{of("push; !close 2 #5; ret"), api.ErrType},
		{of("load 1; load 1; !close 2 #5; ret"), api.ErrType},
		{of("load 1; push; !close 2 #5; ret"), api.ErrType},
		{of("!apply 0; ret"), api.ErrStack},
		{of("!apply 255; ret"), api.ErrStack},
		{of("load 2; !apply 1; ret"), api.ErrStack},
		{of("push; !apply 0; ret"), api.ErrType},
		{of("lit; !apply 0; ret"), api.ErrType},
		{of("load 1; !apply 0; ret"), api.ErrType},
		{of("array 0 fn; push; !apply 1; ret"), api.ErrType},
		{of("push; push; !apply 1; ret"), api.ErrType},
		{of("load 2; push; !apply 1; ret"), api.ErrType},
		{of("close 0 n.h; !apply 0; ret"), api.ErrType},
		{of("close 0 n.h; lit; !apply 1; ret"), api.ErrType},
		{of("close 0 n.h; push; push; !apply 2; ret"), api.ErrType},
		{of("close 0 m.g; push; !apply 1; ret"), api.ErrType},
		{of("close 0 m.g; lit; push; !apply 2; ret"), api.ErrType},
		{of("close 0 m.g; lit; lit; !apply 2; ret"), api.ErrType},
		{of("close 0 m.g; push; push; !apply 2; ret"), api.ErrType},
		{of("push; close 0 n.h; !apply 1; ret"), api.ErrType},
		{of("close 0 n.h; " + times(47, "push") + "!apply 47; ret"), api.ErrType},
		{of("close 0 n.h; " + times(47, "push") + "!apply 48; ret"), api.ErrStack},
		{of("!ret"), api.ErrStack},
		{of("lit; !ret"), api.ErrType},
		{of("load 1; !ret"), api.ErrType},
		{of("load 2; !ret"), api.ErrType},
		{of("push; push; !ret"), api.ErrStack},
		{of("lit; push; !ret"), api.ErrStack},
		{of("load 2; apply 0; load 2; apply 0; !ret"), api.ErrStack},
	})
}

// P15.2: each number and each symbol that may not be.
func TestNumbersAndSymbols(t *testing.T) {
	wantAllRefused(t, []refused{
		{of("!load 3; ret"), api.ErrRef},
		{of("!load 4; ret"), api.ErrRef},
		{of("!load 255; ret"), api.ErrRef},
		{of("push; !store 4; push; ret"), api.ErrRef},
		{of("push; !store 255; push; ret"), api.ErrRef},
		{of("push; push; !do 13; ret"), api.ErrForm},
		{of("push; push; !do 14; ret"), api.ErrForm},
		{of("push; push; !do 255; ret"), api.ErrForm},
		{of("!array 0 8; ret"), api.ErrRef},
		{of("!array 0 255; ret"), api.ErrRef},
		{of("!array 0 longest; ret"), api.ErrType},
		{of("global n.longer; !array 1 longest; ret"), api.ErrType},
		{of("!build 2 m.T; ret"), api.ErrRef},
		{of("!build 255 m.T; ret"), api.ErrRef},
		{of("!build 1 m.One; ret"), api.ErrRef},
		{of("!build 6 m.Six; ret"), api.ErrRef},
		{of("!build 2 n.U; ret"), api.ErrRef},
		{of("load 1; !switch m.T a; a: ret"), api.ErrCount},
		{of("load 1; !switch m.T a a a; a: ret"), api.ErrCount},
		{of("load 1; !switch m.T a a a a a a; a: ret"), api.ErrCount},
		{of("load 1; !switch m.One a a; a: ret"), api.ErrCount},
		{of("load 1; !switch m.Six a a a a a; a: ret"), api.ErrCount},
		{of("build 0 n.U; !switch n.U a; a: ret"), api.ErrCount},
		{of("!close 1 m.k; ret"), api.ErrCount},
		{of("push; !close 1 m.k; ret"), api.ErrCount},
		{of("push; !close 1 n.h; ret"), api.ErrCount},
		{of("push; lit; !close 2 m.g; ret"), api.ErrCount},
		{of("!close 255 k.wide; ret"), api.ErrCount},
		{of("lit; !close 0 #2; ret"), api.ErrCount},
		{of("lit; push; !close 2 #2; ret"), api.ErrCount},
		{of("push; load 1; !close 1 #5; ret"), api.ErrCount},
		{of("push; load 1; lit; !close 3 #5; ret"), api.ErrCount},
		{of("push; !close 1 #0; ret"), api.ErrCount},
		{of("lit; push; !call #2; ret"), api.ErrRef},
		{of("push; load 1; lit; !call #5; ret"), api.ErrRef},
		{of("push; !call #7; ret"), api.ErrRef},
	})
	for _, c := range []struct{ one, right string }{
		{"build 0", "m.T m.One m.Six n.U k.V"},
		{"switch", "m.T m.One m.Six n.U k.V"},
		{"call", "m.f m.g m.k n.h n.z k.wide #0 #4"},
		{"global", "m.c m.d n.e n.long n.longer"},
		{"close 0", "m.f m.g m.k n.h n.z k.wide #0 #2 #4 #5 #7"},
	} {
		for _, s := range symbolsOf("()num") {
			name := nameOf(s)
			if strings.Contains(" "+c.right+" ", " "+name+" ") {
				continue
			}
			ways := ""
			if c.one == "switch" {
				ways = " a"
			}
			wantTested(t, of("!"+c.one+" "+name+ways+"; a: push; ret"), api.ErrRef)
			wantTested(t, of("push; lit; load 1; !"+c.one+" "+name+ways+"; a: push; ret"), api.ErrRef)
		}
	}
}

// doTypes are what may lie on the stack for an operation, with an instruction that pushes each.
var doTypes = map[string]string{
	"num":      "push",
	"bytes":    "lit",
	"[num]":    "global m.d",
	"[bytes]":  "array 0 bytes",
	"[m.T]":    "array 0 T",
	"m.T":      "load 1",
	"()num":    "load 2",
	"(num)n.U": "close 0 n.h",
	"n.U":      "global n.e",
}

// P15.2: Do takes and gives what chapter 9 has, by all types of what may lie on the stack.
func TestDo(t *testing.T) {
	for number, op := range doNames {
		for first, pushFirst := range doTypes {
			wantDo(t, number, op, []string{first}, pushFirst)
			for second, pushSecond := range doTypes {
				wantDo(t, number, op, []string{first, second}, pushFirst, pushSecond)
				if op == "cut" || first == second {
					for third, pushThird := range doTypes {
						wantDo(t, number, op, []string{first, second, third}, pushFirst, pushSecond, pushThird)
					}
				}
			}
		}
		wantTested(t, of("!do "+op+"; ret"), api.ErrStack)
	}
}

// wantDo: an operation on these gives the type that sema tells, with what lies below them left as it was.
func wantDo(t *testing.T, number int, op string, on []string, pushes ...string) {
	t.Helper()
	count := kidsOf(op)
	code := strings.Join(pushes, "; ")
	if len(on) < count {
		wantTested(t, of(code+"; !do "+strconv.Itoa(number)+"; ret"), api.ErrStack)
		return
	}
	made, ok := typeOfOp(op, on[len(on)-count:])
	if !ok {
		wantTested(t, of(code+"; !do "+op+"; ret"), api.ErrType)
		return
	}
	below := len(on) - count
	f := of(code + "; do " + op + "; store 3; " + times(below, "store 0") + "load 3; ret")
	f.result = made
	wantTested(t, f, api.OK)
	f.text = code + "; do " + op + "; store 3; " + times(below, "store 0") + "!store 0; load 3; ret"
	wantTested(t, f, api.ErrStack)
	for _, other := range []string{"num", "bytes", "m.T"} {
		if other != made {
			f.result, f.text = other, code+"; do "+op+"; !ret"
			wantTested(t, f, api.ErrType)
		}
	}
}

// P15.2: references and relocations.
func TestReferences(t *testing.T) {
	for _, c := range []string{"build 0", "switch", "call", "global", "close 0"} {
		ways := ""
		if c == "switch" {
			ways = " a"
		}
		wantTested(t, of("?"+c+" -"+ways+"; a: push; ret"), api.ErrRef)
		wantTested(t, of("push; ?"+c+" -"+ways+"; a: push; ret"), api.ErrRef)
		wantTested(t, of("global m.c; ?"+c+" -"+ways+"; a: push; ret"), api.ErrRef)
		wantTested(t, of("call m.c; push; ?"+c+" -"+ways+"; a: call -; ret"), api.ErrRef)
	}
	for _, f := range []fn{of("push; ret"), of("push; lit; call m.g; do len; ret"), of("global m.c; load 0; zero a; a: do len; ret")} {
		o := scene(f)
		refs := put(f.text).refs
		size := len(o.Funs[1].Code)
		for at := range size - 1 {
			if len(refs) > 0 && refs[0].at == at {
				continue
			}
			with := loosened(o, object.Reloc{Fun: 1, At: at, Sym: 3})
			wantFun(t, "a relocation that is no reference's", with, 1, api.ErrRef, at)
			wantObject(t, "a relocation that is no reference's", with, ifaces(), api.ErrRef, 1, at)
			for last := at + 1; last < size-1; last++ {
				if len(refs) > 0 && refs[0].at == last {
					continue
				}
				wantFun(t, "two such", loosened(with, object.Reloc{Fun: 1, At: last, Sym: 0}), 1, api.ErrRef, at)
			}
			for _, n := range []int{0, 2, 3, 4, 5, 6, 7} {
				wantFun(t, "one of another function", with, n, api.OK, 0)
			}
		}
	}
}

// loosened is o with one more relocation, at its place.
func loosened(o object.Object, r object.Reloc) object.Object {
	var out []object.Reloc
	for _, x := range o.Relocs {
		if x.Fun < r.Fun || x.Fun == r.Fun && x.At < r.At {
			out = append(out, x)
		}
	}
	o.Relocs = append(append(out, r), o.Relocs[len(out):]...)
	return o
}

// P15.2: what code.Decode refuses.
func TestNoCode(t *testing.T) {
	wantAllRefused(t, []refused{
		{of("!raw 00"), api.ErrForm},
		{of("push; !raw 10"), api.ErrForm},
		{of("push; ret; !raw ff"), api.ErrForm},
		{of("!raw 01"), api.ErrEnd},
		{of("!raw 01 02"), api.ErrEnd},
		{of("push; !raw 05 00"), api.ErrEnd},
		{of("!raw 02 02 61"), api.ErrEnd},
		{of("!raw 01 80 00 00"), api.ErrForm},
		{of("push; !raw 0b 00 01; ret"), api.ErrForm},
		{of("push; !raw 0a 00 00 00; ret"), api.ErrForm},
		{of("push; !raw 0a 07 00 00; ret"), api.ErrForm},
	})
	o := plain()
	o.Funs[1].Code = make([]byte, api.MaxCode+1)
	wantFun(t, "code that is too long", o, 1, api.ErrLong, 0)
}

// A number that is no function's: the document names no refusal; it is none that a function could be refused with.
func TestNoFunction(t *testing.T) {
	for _, o := range []object.Object{plain(), {}, {Module: "m"}} {
		for _, n := range []int{-1, len(o.Funs), len(o.Funs) + 1, 1 << 40, -1 << 63, 1<<63 - 1} {
			if why, at := verify.Fun(o, n); why != api.ErrArg || at != 0 {
				t.Errorf("Fun %d of %d: %v at %d", n, len(o.Funs), why, at)
			}
		}
	}
}
