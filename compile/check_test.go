package compile_test

import (
	"bytes"
	"slices"
	"strings"
	"testing"

	"hawser/api"
	"hawser/code"
	"hawser/compile"
	"hawser/iface"
	"hawser/object"
	"hawser/verify"
)

func written(l ...code.Inst) []byte {
	b, why := code.Encode(l)
	if why != api.OK {
		panic(why)
	}
	return b
}

func encoded(t testing.TB, o object.Object) []byte {
	t.Helper()
	b, why := object.Encode(o)
	if why != api.OK {
		t.Fatalf("%+v: %v", o, why)
	}
	return b
}

// byHand is an object of which the interfaces of others let by all: f calls n's f behind g's two instructions; the symbols are n's c, k's V, n's f.
func byHand() object.Object {
	return object.Object{
		Module: "m",
		Funs: []object.Fun{
			{Name: "g", Result: "num", Code: written(code.Inst{Op: code.Push, N: 1}, code.Inst{At: 3, Op: code.Ret})},
			{Name: "f", Result: "n.T", Code: written(code.Inst{Op: code.Push, N: 1}, code.Inst{At: 3, Op: code.Call}, code.Inst{At: 6, Op: code.Ret})},
		},
		Symbols: []object.Symbol{
			{Module: "n", Item: constItem("c", "num")},
			{Module: "n", Item: typeItem("T", caseOf("P", "num"), caseOf("Q"))},
			{Module: "k", Item: typeItem("V", caseOf("A"), caseOf("B", "k.V"))},
			{Module: "n", Item: funItem("f", "(num)n.T")},
		},
		Relocs: []object.Reloc{{Fun: 1, At: 4, Sym: 3}},
	}
}

// hurt is an object's bytes, and how verify.Object refuses it against the interfaces of others.
type hurt struct {
	b     []byte
	why   api.Errno
	n, at int
}

// hurts are objects that object.Decode lets by.
func hurts(t testing.TB) []hurt {
	var l []hurt
	add := func(why api.Errno, n, at int, turn func(o *object.Object)) {
		o := byHand()
		turn(&o)
		l = append(l, hurt{encoded(t, o), why, n, at})
	}
	add(api.OK, 0, 0, func(o *object.Object) {})
	add(api.ErrNone, 2, 0, func(o *object.Object) { o.Symbols[2].Module = "q" })
	add(api.ErrMissing, 0, 0, func(o *object.Object) { o.Symbols[0].Item.Name = "e" })
	add(api.ErrSignature, 3, 0, func(o *object.Object) { o.Symbols[3].Item.Type = "()n.T" })
	add(api.ErrSignature, 1, 0, func(o *object.Object) { o.Symbols[1].Item.Cases = o.Symbols[1].Item.Cases[:1] })
	add(api.ErrMissing, 0, 0, func(o *object.Object) { o.Symbols[0].Module = "m" })
	add(api.ErrType, 2, 0, func(o *object.Object) { o.Texts = []string{"num", "k.V", "[k.W]"} })
	add(api.ErrType, 1, 0, func(o *object.Object) {
		o.Globals = []object.Global{{Name: "a", Type: "num", Fun: 0}, {Name: "b", Type: "num", Fun: 1}}
	})
	add(api.ErrType, 1, 0, func(o *object.Object) { o.Funs[1].Result = "n.U" })
	add(api.ErrType, 1, 6, func(o *object.Object) { o.Funs[1].Result = "num" })
	add(api.ErrType, 0, 3, func(o *object.Object) { o.Funs[0].Result = "bytes" })
	add(api.ErrEnd, 0, 0, func(o *object.Object) { o.Funs[0].Code = nil })
	add(api.ErrRef, 1, 4, func(o *object.Object) { o.Relocs = nil })
	add(api.ErrRef, 1, 3, func(o *object.Object) { o.Relocs[0].Sym = 0 })
	add(api.ErrStack, 1, 0, func(o *object.Object) {
		o.Funs[1].Code, o.Relocs = written(code.Inst{Op: code.Ret}), nil
	})
	add(api.ErrJump, 0, 4, func(o *object.Object) {
		o.Funs[0].Code = written(code.Inst{Op: code.Push, N: 1}, code.Inst{At: 3, Op: code.Ret}, code.Inst{At: 4, Op: code.Ret})
	})
	return l
}

// P17.2: what verify.Object refuses, with its number and its place.
func TestHurt(t *testing.T) {
	for _, one := range hurts(t) {
		wantChecked(t, one.b, others(), one.why, one.n, one.at)
	}
}

// scraps are bytes that are no object, each with the place where it is refused.
func scraps() map[string]hurt {
	noughts := strings.Repeat("\x00", 8191)
	return map[string]hurt{
		"": {nil, api.ErrEnd, 0, 0}, "\x01": {nil, api.ErrEnd, 0, 1}, "\x01m\x00": {nil, api.ErrEnd, 0, 3}, "\x80\x00": {nil, api.ErrForm, 0, 0}, "\x01m\x80\x00": {nil, api.ErrForm, 0, 2}, "\x19": {nil, api.ErrLong, 0, 0},
		"\x01m" + noughts: {nil, api.ErrLong, 0, 0}, "\x01m" + noughts[1:]: {nil, api.ErrTail, 0, 9}, "\x01m" + noughts[:8]: {nil, api.ErrTail, 0, 9}, "\x01M" + noughts[:7]: {nil, api.ErrName, 0, 0}, "\x00" + noughts[:7]: {nil, api.ErrName, 0, 0},
		"\x01m\x00\x01\x03nun" + noughts[:5]: {nil, api.ErrType, 0, 0}, "\x01m" + noughts[:4] + "\x01\x01f" + noughts[:2]: {nil, api.ErrNone, 0, 0},
	}
}

// P17.2: what object.Decode refuses, at its place.
func TestScraps(t *testing.T) {
	for b, want := range scraps() {
		wantChecked(t, []byte(b), others(), want.why, 0, want.at)
		wantChecked(t, []byte(b), nil, want.why, 0, want.at)
		if _, why, at := object.Decode([]byte(b)); why != want.why || at != want.at {
			t.Errorf("%.50x: object: %v at %d", b, why, at)
		}
	}
	wantChecked(t, nil, nil, api.ErrEnd, 0, 0)
}

// P17.2: an object is refused ahead of the interfaces, each of these ahead of the next, and they ahead of what the object means.
func TestOrderOfCheck(t *testing.T) {
	for b, torn := range torn() {
		if _, why, _ := iface.Decode([]byte(b)); why != torn {
			t.Errorf("%x: %v", b, why)
		}
		for k := range 5 {
			ifaces := append(slices.Insert(others(), k, []byte(b)), []byte{0x80, 0})
			for _, one := range hurts(t) {
				wantChecked(t, one.b, ifaces, torn, k, 0)
			}
			for scrap, want := range scraps() {
				wantChecked(t, []byte(scrap), ifaces, want.why, 0, want.at)
			}
		}
	}
}

// P17.2, P17.3: objects against interfaces that lack something, or that nobody asks for.
func TestInterfacesOfCheck(t *testing.T) {
	b, all := encoded(t, byHand()), others()
	n, k, last := all[0], all[1], all[2]
	for _, c := range []struct {
		ifaces [][]byte
		why    api.Errno
		n      int
	}{
		{[][]byte{n, k}, api.OK, 0}, {[][]byte{k, n}, api.OK, 0}, {[][]byte{n, last, k}, api.OK, 0}, {[][]byte{shown("q"), k, shown("m"), n, shown("k")}, api.OK, 0},
		{nil, api.ErrNone, 0}, {[][]byte{}, api.ErrNone, 0}, {[][]byte{n}, api.ErrNone, 2}, {[][]byte{k}, api.ErrNone, 0}, {[][]byte{shown("m", constItem("c", "num"))}, api.ErrNone, 0},
		{[][]byte{last, n, k}, api.ErrSignature, 0}, {[][]byte{n, shown("k"), k}, api.ErrMissing, 2}, {[][]byte{shown("n"), k}, api.ErrMissing, 0},
		{[][]byte{shown("n", constItem("c", "num")), k}, api.ErrMissing, 1}, {[][]byte{shown("n", typeItem("T", caseOf("Q"), caseOf("P", "num")), constItem("c", "num")), k}, api.ErrSignature, 1},
	} {
		wantChecked(t, b, c.ifaces, c.why, c.n, 0)
	}
}

// wantCheckedByLayers: Check answers what the layers beneath do, one behind the other.
func wantCheckedByLayers(t testing.TB, b []byte, ifaces [][]byte) api.Errno {
	t.Helper()
	o, why, at := object.Decode(b)
	if why != api.OK {
		wantChecked(t, b, ifaces, why, 0, at)
		return why
	}
	var l []api.Iface
	for k, one := range ifaces {
		i, why, _ := iface.Decode(one)
		if why != api.OK {
			wantChecked(t, b, ifaces, why, k, 0)
			return why
		}
		l = append(l, i)
	}
	why, n, at := verify.Object(o, l)
	wantChecked(t, b, ifaces, why, n, at)
	return why
}

// P17.2: objects with a byte turned, left out, put in, or cut off; and interfaces likewise.
func TestTurned(t *testing.T) {
	t.Parallel()
	source := "(module m (import n T c f) (export g) (type W (A) (B n.T)) (const z num n.c) (fun g ((w W)) (fn (num) num) (match w ((A) (fn ((x num)) num z)) ((B t) (fn ((x num)) num (match t ((n.P y) (add x y)) ((n.Q) (len (array n.T t (n.f 1))))))))))"
	b := wantMade(t, source, others()).Object
	seen := map[api.Errno]int{}
	for k := range b {
		wantChecked(t, b[:k], others(), api.ErrEnd, 0, k)
		for _, x := range []byte{0, 1, 2, 3, 7, 15, 24, 'A', 'm', 'n', 127, 128, 255, b[k] - 1, b[k] + 1} {
			turned := slices.Clone(b)
			turned[k] = x
			seen[wantCheckedByLayers(t, turned, others())]++
			seen[wantCheckedByLayers(t, slices.Insert(slices.Clone(b), k, x), others())]++
		}
		seen[wantCheckedByLayers(t, slices.Delete(slices.Clone(b), k, k+1), others())]++
	}
	for _, why := range []api.Errno{api.OK, api.ErrEnd, api.ErrTail, api.ErrForm, api.ErrName, api.ErrLong, api.ErrNone, api.ErrTaken, api.ErrType, api.ErrRef, api.ErrJump, api.ErrStack, api.ErrCount, api.ErrMissing, api.ErrSignature} {
		if seen[why] == 0 {
			t.Errorf("nothing is %v", why)
		}
	}
	for at := range others()[:2] {
		shown := others()[at]
		for k := range shown {
			wantCheckedByLayers(t, b, slices.Replace(others(), at, at+1, shown[:k]))
			for _, x := range []byte{0, 1, 2, 3, 'A', 'm', 'n', 128, shown[k] - 1, shown[k] + 1} {
				turned := bytes.Clone(shown)
				turned[k] = x
				ifaces := slices.Replace(others(), at, at+1, turned)
				wantCheckedByLayers(t, b, ifaces)
				wantSourceByLayers(t, source, ifaces)
			}
		}
	}
}

// R3: a refused call leaves nothing behind for a later one.
func TestRefusedCheckLeavesNothing(t *testing.T) {
	b := encoded(t, byHand())
	for _, one := range hurts(t) {
		compile.Check(one.b, others()[2:])
		compile.Check(b, [][]byte{{}})
		compile.Check(one.b[:3], nil)
		wantChecked(t, b, others(), api.OK, 0, 0)
		wantChecked(t, b, nil, api.ErrNone, 0, 0)
	}
}
