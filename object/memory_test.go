package object_test

import (
	"fmt"
	"slices"
	"strings"
	"testing"
	"unsafe"

	"hawser/api"
	"hawser/object"
)

// roomy is a copy of a list with spare room behind it, which is filled with x.
func roomy[E any](l []E, x E) []E {
	room := append(slices.Clone(l), x, x, x)
	return room[:len(l)]
}

func roomyItem(x api.Item) api.Item {
	x.Cases = roomy(x.Cases, caseOf("Spare", "spare"))
	for k := range x.Cases {
		x.Cases[k].Fields = roomy(x.Cases[k].Fields, "spare")
	}
	return x
}

// roomyObject has spare room in each of its lists, and none of them is o's.
func roomyObject(o object.Object) object.Object {
	o.Types = roomy(o.Types, typeItem("Spare", caseOf("A")))
	for k := range o.Types {
		o.Types[k] = roomyItem(o.Types[k])
	}
	o.Texts = roomy(o.Texts, "[num]")
	o.Globals = roomy(o.Globals, object.Global{Name: "spare", Type: "num"})
	o.Funs = roomy(o.Funs, plain(2))
	for k := range o.Funs {
		o.Funs[k].Params = roomy(o.Funs[k].Params, "bytes")
		o.Funs[k].Code = roomy(o.Funs[k].Code, 0x77)
	}
	o.Exports = roomy(o.Exports, "spare")
	o.Symbols = roomy(o.Symbols, symbol("spare", constItem("c", "num")))
	for k := range o.Symbols {
		o.Symbols[k].Item = roomyItem(o.Symbols[k].Item)
	}
	o.Relocs = roomy(o.Relocs, object.Reloc{Fun: 77})
	return o
}

func wholeItem(x api.Item) api.Item {
	x.Cases = slices.Clone(x.Cases[:cap(x.Cases)])
	for k, c := range x.Cases {
		x.Cases[k].Fields = c.Fields[:cap(c.Fields)]
	}
	return x
}

// whole tells an object with the spare room of each of its lists.
func whole(o object.Object) string {
	o.Types = slices.Clone(o.Types[:cap(o.Types)])
	for k := range o.Types {
		o.Types[k] = wholeItem(o.Types[k])
	}
	o.Texts = o.Texts[:cap(o.Texts)]
	o.Globals = o.Globals[:cap(o.Globals)]
	o.Funs = slices.Clone(o.Funs[:cap(o.Funs)])
	for k, f := range o.Funs {
		o.Funs[k].Params = f.Params[:cap(f.Params)]
		o.Funs[k].Code = f.Code[:cap(f.Code)]
	}
	o.Exports = o.Exports[:cap(o.Exports)]
	o.Symbols = slices.Clone(o.Symbols[:cap(o.Symbols)])
	for k := range o.Symbols {
		o.Symbols[k].Item = wholeItem(o.Symbols[k].Item)
	}
	o.Relocs = o.Relocs[:cap(o.Relocs)]
	return told(o)
}

// answers tells what each call that takes an object answers.
func answers(o object.Object) string {
	why, n := object.Right(o)
	b, whyBytes := object.Encode(o)
	i, whyIface := object.Iface(o)
	s := fmt.Sprintf("%v %d %x %v %s %v %q", why, n, b, whyBytes, toldIface(i), whyIface, object.Imports(o))
	for _, f := range o.Funs {
		s += " " + object.Sign(f)
	}
	return s
}

// R2, R4: objects that are handed in stand as they were, spare room too; the same again answers the same, and spare room tells nothing.
func TestObjectsUnchanged(t *testing.T) {
	t.Parallel()
	all := rights()
	for _, c := range wrongs() {
		all = append(all, c.o)
	}
	for k, o := range all {
		if len(o.Relocs) > 1000 {
			continue
		}
		given := roomyObject(o)
		ahead := whole(given)
		first := answers(given)
		if whole(given) != ahead {
			t.Errorf("object %d was changed", k)
		}
		if again := answers(given); again != first {
			t.Errorf("object %d: again %.300s, was %.300s", k, again, first)
		}
		if bare := answers(o); bare != first {
			t.Errorf("object %d: its spare room tells: %.300s, else %.300s", k, first, bare)
		}
	}
}

// R2, R4: so do bytes.
func TestBytesUnchanged(t *testing.T) {
	for _, s := range []string{"", "\x01m", ordinaryBytes, ordinaryBytes + "\x00", ordinaryBytes[:99], strings.Replace(ordinaryBytes, "num", "nun", 1), strings.Repeat("\x00", 8193)} {
		given := roomy([]byte(s), 0)
		o, why, at := object.Decode(given)
		if string(given) != s || string(given[:cap(given)][len(s):len(s)+3]) != "\x00\x00\x00" {
			t.Errorf("%.50x was changed", s)
		}
		again, whyAgain, atAgain := object.Decode(given)
		if told(again) != told(o) || whyAgain != why || atAgain != at {
			t.Errorf("%.50x: Decode again: %s, %v at %d", s, told(again), whyAgain, atAgain)
		}
		if bare, whyBare, atBare := object.Decode([]byte(s)); told(bare) != told(o) || whyBare != why || atBare != at {
			t.Errorf("%.50x: its spare room tells", s)
		}
	}
}

// R4: nil and empty lists mean the same.
func TestEmptyLists(t *testing.T) {
	o := object.Object{Module: "m", Types: []api.Item{}, Texts: []string{}, Globals: []object.Global{}, Funs: []object.Fun{}, Exports: []string{}, Symbols: []object.Symbol{}, Relocs: []object.Reloc{}}
	if got, want := answers(o), answers(empty()); got != want {
		t.Errorf("empty lists: %s, want %s", got, want)
	}
	within := func(cases []api.Case, fields, params []string, code []byte) object.Object {
		return object.Object{
			Module:  "m",
			Types:   []api.Item{typeItem("T", api.Case{Name: "A", Fields: fields})},
			Funs:    []object.Fun{{Params: params, Result: "num", Code: code}},
			Symbols: []object.Symbol{symbol("m", api.Item{Kind: api.Fun, Type: "0", Cases: cases}), symbol("m", api.Item{Kind: api.Fun, Name: "f", Type: "()num", Cases: cases})},
		}
	}
	got, want := answers(within([]api.Case{}, []string{}, []string{}, []byte{})), answers(within(nil, nil, nil, nil))
	if got != want {
		t.Errorf("empty lists within: %s, want %s", got, want)
	}
}

func scribble[E any](l []E, x E) {
	for k := range l[:cap(l)] {
		l[:cap(l)][k] = x
	}
}

func handsOfItem(x api.Item) (hands []func()) {
	hands = append(hands, func() { scribble(x.Cases, caseOf("scribbled")) })
	for _, c := range x.Cases {
		hands = append(hands, func() { scribble(c.Fields, "scribbled") })
	}
	return hands
}

// handsOf are hands that write over each list of an object, spare room included.
func handsOf(o object.Object) []func() {
	hands := []func(){
		func() { scribble(o.Types, typeItem("scribbled")) },
		func() { scribble(o.Texts, "scribbled") },
		func() { scribble(o.Globals, object.Global{Name: "scribbled"}) },
		func() { scribble(o.Funs, object.Fun{Name: "scribbled"}) },
		func() { scribble(o.Exports, "scribbled") },
		func() { scribble(o.Symbols, symbol("scribbled", api.Item{})) },
		func() { scribble(o.Relocs, object.Reloc{Fun: -99}) },
	}
	for _, x := range o.Types {
		hands = append(hands, handsOfItem(x)...)
	}
	for _, f := range o.Funs {
		hands = append(hands, func() { scribble(f.Params, "scribbled") }, func() { scribble(f.Code, 0xee) })
	}
	for _, s := range o.Symbols {
		hands = append(hands, handsOfItem(s.Item)...)
	}
	return hands
}

func partsOfItem(x api.Item) (tell []func() string) {
	tell = append(tell, func() string {
		s := ""
		for _, c := range x.Cases {
			s += c.Name + ";"
		}
		return s
	})
	for _, c := range x.Cases {
		tell = append(tell, func() string { return fmt.Sprintf("%q", c.Fields) })
	}
	return tell
}

// partsOf tells each list of an object by itself, in the order of handsOf, whatever the lists that hold it have become.
func partsOf(o object.Object) []func() string {
	tell := []func() string{
		func() (s string) {
			for _, x := range o.Types {
				s += fmt.Sprintf(" %d %s %s", x.Kind, x.Name, x.Type)
			}
			return s
		},
		func() string { return fmt.Sprintf("%q", o.Texts) },
		func() string { return fmt.Sprint(o.Globals) },
		func() (s string) {
			for _, f := range o.Funs {
				s += fmt.Sprintf(" %s %d %s %d", f.Name, f.Captures, f.Result, f.Locals)
			}
			return s
		},
		func() string { return fmt.Sprintf("%q", o.Exports) },
		func() (s string) {
			for _, x := range o.Symbols {
				s += fmt.Sprintf(" %s %d %s %s", x.Module, x.Item.Kind, x.Item.Name, x.Item.Type)
			}
			return s
		},
		func() string { return fmt.Sprint(o.Relocs) },
	}
	for _, x := range o.Types {
		tell = append(tell, partsOfItem(x)...)
	}
	for _, f := range o.Funs {
		tell = append(tell, func() string { return fmt.Sprintf("%q", f.Params) }, func() string { return fmt.Sprintf("%x", f.Code) })
	}
	for _, s := range o.Symbols {
		tell = append(tell, partsOfItem(s.Item)...)
	}
	return tell
}

// wantApart: each list of what is answered is memory of its own, and another answer is not touched by what is written there.
func wantApart(t *testing.T, answer func() object.Object) {
	t.Helper()
	want := told(answer())
	for k := range handsOf(answer()) {
		got := answer()
		hands, tell, ahead := handsOf(got), partsOf(got), []string{}
		for _, f := range tell {
			ahead = append(ahead, f())
		}
		hands[k]()
		for n, f := range tell {
			if n != k && f() != ahead[n] {
				t.Errorf("list %d shares memory with list %d: %s, was %s", n, k, f(), ahead[n])
			}
		}
		if again := told(answer()); again != want {
			t.Errorf("list %d: then it is %s, was %s", k, again, want)
		}
	}
}

// exporting has all of its names among its exports.
func exporting() object.Object {
	return turned(func(o *object.Object) { o.Exports = []string{"Ab", "Tree", "a", "all", "f", "one"} })
}

// R2: what Decode and Iface answer.
func TestAnswersApart(t *testing.T) {
	b := []byte(ordinaryBytes)
	wantApart(t, func() object.Object {
		o, _, _ := object.Decode(b)
		return o
	})
	o := exporting()
	wantApart(t, func() object.Object {
		i, _ := object.Iface(o)
		return object.Object{Types: i.Items}
	})
}

// R2: what Encode and Imports answer is new each time, spare room too.
func TestListsNew(t *testing.T) {
	o := ordinary()
	b, _ := object.Encode(o)
	scribble(b, 0xee)
	wantRound(t, "behind an answer that was written over", o, []byte(ordinaryBytes))
	l := object.Imports(o)
	scribble(l, "scribbled")
	if got := object.Imports(o); !slices.Equal(got, []string{"k", "n"}) {
		t.Errorf("Imports behind an answer that was written over: %q", got)
	}
	if told(o) != told(ordinary()) {
		t.Errorf("an answer shares memory with what was handed in: %s", told(o))
	}
}

// R2: what is handed in is not kept: no answer turns when it does.
func TestKeepsNothing(t *testing.T) {
	b := []byte(ordinaryBytes)
	o, _, _ := object.Decode(b)
	scribble(b, 0xee)
	if told(o) != told(ordinary()) {
		t.Errorf("Decode keeps its bytes: %s", told(o))
	}
	given := roomyObject(exporting())
	i, _ := object.Iface(given)
	l := object.Imports(given)
	bytes, _ := object.Encode(given)
	for _, hand := range handsOf(given) {
		hand()
	}
	if toldIface(i) != toldIface(ifaceByTaking(exporting())) {
		t.Errorf("Iface keeps its object: %s", toldIface(i))
	}
	if !slices.Equal(l, []string{"k", "n"}) {
		t.Errorf("Imports keeps its object: %q", l)
	}
	if string(bytes) != string(bytesByHand(exporting())) {
		t.Errorf("Encode keeps its object: %x", bytes)
	}
	wantRound(t, "behind one that was written over", ordinary(), []byte(ordinaryBytes))
}

func textsOfItem(x api.Item) []string {
	l := []string{x.Name, x.Type}
	for _, c := range x.Cases {
		l = append(append(l, c.Name), c.Fields...)
	}
	return l
}

func textsOf(o object.Object) []string {
	l := slices.Concat([]string{o.Module}, o.Texts, o.Exports)
	for _, x := range o.Types {
		l = append(l, textsOfItem(x)...)
	}
	for _, g := range o.Globals {
		l = append(l, g.Name, g.Type)
	}
	for _, f := range o.Funs {
		l = append(append(l, f.Name, f.Result), f.Params...)
	}
	for _, s := range o.Symbols {
		l = append(append(l, s.Module), textsOfItem(s.Item)...)
	}
	return l
}

// wantNoPieces: no text of an answer is a piece of one that was handed in.
func wantNoPieces(t *testing.T, what string, answer, given []string) {
	t.Helper()
	for _, piece := range answer {
		for _, whole := range given {
			from, at := uintptr(unsafe.Pointer(unsafe.StringData(whole))), uintptr(unsafe.Pointer(unsafe.StringData(piece)))
			if piece != "" && from <= at && at < from+uintptr(len(whole)) {
				t.Errorf("%s: %q is a piece of what was handed in", what, piece)
			}
		}
	}
}

// R2: texts of answers are new memory.
func TestTextsNew(t *testing.T) {
	b := []byte(ordinaryBytes)
	o, _, _ := object.Decode(b)
	wantNoPieces(t, "Decode", textsOf(o), []string{unsafe.String(unsafe.SliceData(b), len(b))})
	given := exporting()
	i, _ := object.Iface(given)
	answer := []string{i.Module}
	for _, x := range i.Items {
		answer = append(answer, textsOfItem(x)...)
	}
	wantNoPieces(t, "Iface", answer, textsOf(given))
	wantNoPieces(t, "Imports", object.Imports(given), textsOf(given))
	f := object.Fun{Params: []string{"num"}, Captures: 1, Result: "bytes"}
	wantNoPieces(t, "Sign", []string{object.Sign(f)}, []string{"num", f.Params[0], f.Result})
}
