package link_test

import (
	"fmt"
	"slices"
	"strings"
	"testing"
	"unsafe"

	"hawser/api"
	"hawser/link"
	"hawser/object"
)

// roomy is a copy of a list with spare room behind it, which is filled with x.
func roomy[E any](l []E, x E) []E { return append(slices.Clip(slices.Clone(l)), x, x, x)[:len(l)] }

func roomyItem(x api.Item) api.Item {
	x.Cases = roomy(x.Cases, caseOf("Spare", "spare"))
	for k := range x.Cases {
		x.Cases[k].Fields = roomy(x.Cases[k].Fields, "spare")
	}
	return x
}

// roomyObject has spare room in each of its lists, that would tell if it were read, and none of them is o's.
func roomyObject(o object.Object) object.Object {
	o.Types = roomy(o.Types, typeItem("Spare", caseOf("A")))
	for k := range o.Types {
		o.Types[k] = roomyItem(o.Types[k])
	}
	o.Texts = roomy(o.Texts, "[num]")
	o.Globals = roomy(o.Globals, object.Global{Name: "spare", Type: "num"})
	o.Funs = roomy(o.Funs, object.Fun{Name: "spare", Result: "num"})
	for k := range o.Funs {
		o.Funs[k].Params = roomy(o.Funs[k].Params, "bytes")
		o.Funs[k].Code = roomy(o.Funs[k].Code, 0x77)
	}
	o.Exports = roomy(o.Exports, "spare")
	o.Symbols = roomy(o.Symbols, symbol("spare", constItem("c", "num")))
	for k := range o.Symbols {
		o.Symbols[k].Item = roomyItem(o.Symbols[k].Item)
	}
	o.Relocs = roomy(o.Relocs, object.Reloc{})
	return o
}

// roomyFamily: one spare object lacks something, another is there already.
func roomyFamily(l []object.Object) []object.Object {
	out := roomy(l, needing("spare", "nobody"))
	for k := range out {
		out[k] = roomyObject(out[k])
	}
	return out
}

func wholeItem(x api.Item) api.Item {
	x.Cases = slices.Clone(x.Cases[:cap(x.Cases)])
	for k, c := range x.Cases {
		x.Cases[k].Fields = c.Fields[:cap(c.Fields)]
	}
	return x
}

// whole tells objects with the spare room of each of their lists.
func whole(l []object.Object) string {
	var b strings.Builder
	for _, o := range l[:cap(l)] {
		o.Types = slices.Clone(o.Types[:cap(o.Types)])
		for k := range o.Types {
			o.Types[k] = wholeItem(o.Types[k])
		}
		o.Texts = o.Texts[:cap(o.Texts)]
		o.Globals = o.Globals[:cap(o.Globals)]
		o.Funs = slices.Clone(o.Funs[:cap(o.Funs)])
		for k, f := range o.Funs {
			o.Funs[k].Params, o.Funs[k].Code = f.Params[:cap(f.Params)], f.Code[:cap(f.Code)]
		}
		o.Exports = o.Exports[:cap(o.Exports)]
		o.Symbols = slices.Clone(o.Symbols[:cap(o.Symbols)])
		for k := range o.Symbols {
			o.Symbols[k].Item = wholeItem(o.Symbols[k].Item)
		}
		o.Relocs = o.Relocs[:cap(o.Relocs)]
		fmt.Fprintf(&b, "%+v\n", o)
	}
	return b.String()
}

// handed are families that are linked, and some that are refused, each for another reason.
func handed() map[string][]object.Object {
	shown, _ := haves("n")
	return map[string][]object.Object{
		"none":      {},
		"ordinary":  ordinary(),
		"one":       {full("n")},
		"a diamond": {needing("a", "b", "c"), needing("b", "d"), needing("c", "d"), needing("d")},
		"of all":    {full("n"), made("a", needs("n", shown...))},
		"many":      several(13),
		"taken":     append(ordinary(), full("n"), full("n")),
		"a ring":    append(ordinary(), needing("a", "b"), needing("b", "a")),
		"missing":   append(ordinary(), needing("b", "nobody"), needing("a", "nobody")),
		"unlike":    {full("n"), made("a", needs("n", unlike("n")[0])), made("b", needs("n", unlike("n")[1]))},
	}
}

// someRoots are those of each family, and none; all but one of the last are an object's.
func someRoots(l []object.Object) [][]string {
	all := [][]string{nil, {"nobody"}}
	var names []string
	for _, o := range l {
		all = append(all, []string{o.Module})
		names = append(names, o.Module)
	}
	return append(all, names, append(slices.Clone(names), "x"))
}

// answers tell all that the calls answer of a family.
func answers(l []object.Object) string {
	s := told(linked(l))
	for _, roots := range someRoots(l) {
		s += "\n" + toldRoots(l, roots)
	}
	return s
}

// R2, R4, R5: what was handed in stands as it was, spare room too, which is not read; the same again answers the same.
func TestUnchanged(t *testing.T) {
	for what, l := range handed() {
		given := roomyFamily(l)
		ahead := whole(given)
		first := answers(given)
		if whole(given) != ahead {
			t.Errorf("%s: what was handed in was changed", what)
		}
		if answers(given) != first {
			t.Errorf("%s: not the same again", what)
		}
		if answers(l) != first {
			t.Errorf("%s: spare room tells", what)
		}
		for _, roots := range someRoots(l) {
			given := roomy(roots, "spare")
			ahead := fmt.Sprintf("%q", given[:cap(given)])
			if toldRoots(l, given) != toldRoots(l, roots) {
				t.Errorf("%s: spare room behind %q tells", what, roots)
			}
			if now := fmt.Sprintf("%q", given[:cap(given)]); now != ahead {
				t.Errorf("%s: %s, was %s", what, now, ahead)
			}
		}
	}
}

// emptied has lists of no length where o has nil.
func emptied(o object.Object) object.Object {
	o = roomyObject(o)
	for k := range o.Types {
		o.Types[k].Cases = slices.Clip(o.Types[k].Cases)
	}
	return o
}

// R4: nil and empty lists mean the same, and are answered alike.
func TestEmptyLists(t *testing.T) {
	exact := func(l []object.Object, roots []string) string {
		i, stats, why, wrong := link.Objects(l)
		some, whyRoots, name := link.Roots(l, roots)
		return fmt.Sprintf("%#v %#v %v %v %#v %v %s", i, stats, why, wrong, some, whyRoots, name)
	}
	bare, empty := []object.Object{made("m", funs("f"), types(typeItem("T", caseOf("A"))))}, []object.Object{{Module: "m", Types: []api.Item{typeItem("T", api.Case{Name: "A", Fields: []string{}})}, Texts: []string{}, Globals: []object.Global{}, Funs: []object.Fun{{Name: "f", Params: []string{}, Result: "num", Code: []byte{}}}, Exports: []string{}, Symbols: []object.Symbol{}, Relocs: []object.Reloc{}}}
	for what, empty := range map[string][]object.Object{"empty": empty, "spare": {emptied(bare[0])}} {
		if got, want := exact(empty, []string{"m"}), exact(bare, []string{"m"}); got != want {
			t.Errorf("%s lists: %s, want %s", what, got, want)
		}
	}
	if got, want := exact([]object.Object{}, []string{}), exact(nil, nil); got != want {
		t.Errorf("%s, want %s", got, want)
	}
}

// scribble writes over a list, spare room included.
func scribble[E any](l []E, x E) {
	for k := range l[:cap(l)] {
		l[:cap(l)][k] = x
	}
}

func scribbleItem(x api.Item) {
	for _, c := range x.Cases {
		scribble(c.Fields, "scribbled")
	}
	scribble(x.Cases, caseOf("Scribbled"))
}

// scribbleImage writes over each list, the inner ones first.
func scribbleImage(i link.Image) {
	for _, x := range i.Types {
		scribbleItem(x)
	}
	scribble(i.Types, api.Item{})
	scribble(i.Globals, link.Slot{})
	scribble(i.Order, 77)
	for _, f := range i.Funs {
		scribble(f.Code, 0x55)
	}
	scribble(i.Funs, link.Body{})
	scribble(i.Entries, link.Entry{})
}

func scribbleObject(o object.Object) {
	for _, x := range o.Types {
		scribbleItem(x)
	}
	scribble(o.Types, api.Item{})
	scribble(o.Texts, "scribbled")
	scribble(o.Globals, object.Global{})
	for _, f := range o.Funs {
		scribble(f.Params, "scribbled")
		scribble(f.Code, 0x55)
	}
	scribble(o.Funs, object.Fun{})
	scribble(o.Exports, "scribbled")
	for _, s := range o.Symbols {
		scribbleItem(s.Item)
	}
	scribble(o.Symbols, object.Symbol{})
	scribble(o.Relocs, object.Reloc{Fun: 77})
}

func scribbleObjects(l []object.Object) {
	for _, o := range l {
		scribbleObject(o)
	}
	scribble(l, object.Object{Module: "scribbled"})
}

// R2: answers may be written over: neither what was handed in nor other answers are touched.
func TestAnswersApart(t *testing.T) {
	for what, l := range handed() {
		given := roomyFamily(l)
		ahead, first := whole(given), answers(given)
		kept := linked(given)
		scribbleImage(linked(given).image)
		if told(kept) != told(linked(given)) {
			t.Errorf("%s: images share memory", what)
		}
		for _, roots := range someRoots(l) {
			kept, _, _ := link.Roots(given, roots)
			keptAhead := whole(kept)
			other, _, _ := link.Roots(given, roots)
			scribbleObjects(other)
			if whole(kept) != keptAhead {
				t.Errorf("%s: answers of Roots share memory", what)
			}
		}
		if whole(given) != ahead || answers(given) != first {
			t.Errorf("%s: what was handed in is shared", what)
		}
	}
}

// R2: what was handed in is not kept.
func TestKeepsNothing(t *testing.T) {
	for what, l := range handed() {
		for _, roots := range someRoots(l) {
			given := roomyFamily(l)
			givenRoots := slices.Clone(roots)
			image := linked(given)
			some, _, _ := link.Roots(given, givenRoots)
			aheadImage, ahead := told(image), whole(some)
			scribbleObjects(given)
			scribble(givenRoots, "scribbled")
			if told(image) != aheadImage || whole(some) != ahead {
				t.Errorf("%s: what was handed in is kept", what)
			}
		}
	}
}

// piece is a list's memory, spare room too, by its first and last byte.
type piece struct {
	what        string
	first, last uintptr
}

func pieceOf[E any](what string, l []E) []piece {
	if cap(l) == 0 {
		return nil
	}
	first := uintptr(unsafe.Pointer(unsafe.SliceData(l)))
	var x E
	return []piece{{what, first, first + uintptr(cap(l))*unsafe.Sizeof(x) - 1}}
}

func piecesOfItem(what string, x api.Item) []piece {
	out := pieceOf(what+" cases", x.Cases)
	for _, c := range x.Cases {
		out = append(out, pieceOf(what+" fields", c.Fields)...)
	}
	return out
}

func piecesOfImage(i link.Image) []piece {
	out := slices.Concat(pieceOf("Types", i.Types), pieceOf("Globals", i.Globals), pieceOf("Order", i.Order), pieceOf("Funs", i.Funs), pieceOf("Entries", i.Entries))
	for _, x := range i.Types {
		out = append(out, piecesOfItem("type", x)...)
	}
	for _, f := range i.Funs {
		out = append(out, pieceOf("code", f.Code)...)
	}
	return out
}

func piecesOfObjects(l []object.Object) []piece {
	out := pieceOf("objects", l)
	for _, o := range l {
		out = slices.Concat(out, pieceOf("Types", o.Types), pieceOf("Texts", o.Texts), pieceOf("Globals", o.Globals), pieceOf("Funs", o.Funs), pieceOf("Exports", o.Exports), pieceOf("Symbols", o.Symbols), pieceOf("Relocs", o.Relocs))
		for _, x := range o.Types {
			out = append(out, piecesOfItem("type", x)...)
		}
		for _, f := range o.Funs {
			out = slices.Concat(out, pieceOf("Params", f.Params), pieceOf("code", f.Code))
		}
		for _, s := range o.Symbols {
			out = append(out, piecesOfItem("symbol", s.Item)...)
		}
	}
	return out
}

func wantApart(t *testing.T, pieces []piece) {
	t.Helper()
	slices.SortFunc(pieces, func(a, b piece) int { return int(int64(a.first) - int64(b.first)) })
	for k := 1; k < len(pieces); k++ {
		if pieces[k].first <= pieces[k-1].last {
			t.Errorf("%s and %s share memory", pieces[k-1].what, pieces[k].what)
		}
	}
}

// R2: no two lists of one answer share memory, spare room included, nor with what was handed in, where lists are shared.
func TestListsApart(t *testing.T) {
	shared := full("n")
	shared.Funs[1].Code, shared.Funs[0].Code = []byte("abcd"), []byte("abcd")
	shared.Funs[2].Code = shared.Funs[1].Code
	shared.Types[1].Cases = shared.Types[0].Cases
	needs("n", typeItem("T", shared.Types[0].Cases...))(&shared)
	for what, l := range map[string][]object.Object{"ordinary": ordinary(), "shared": {shared}, "all": append(ordinary(), shared)} {
		wantRight(t, l)
		if got := linked(l); got.why != api.OK {
			t.Errorf("%s: %v", what, got.why)
		}
		some, why, _ := link.Roots(l, someRoots(l)[2+len(l)])
		if why != api.OK || len(some) != len(l) {
			t.Errorf("%s: %v", what, why)
		}
		wantApart(t, slices.Concat(piecesOfImage(linked(l).image), piecesOfImage(linked(l).image), piecesOfObjects(some)))
		for _, p := range piecesOfObjects(l) {
			for _, q := range slices.Concat(piecesOfImage(linked(l).image), piecesOfObjects(some)) {
				if p.first <= q.last && q.first <= p.last {
					t.Errorf("%s: %s is the %s that was handed in", what, q.what, p.what)
				}
			}
		}
	}
}

// textsOfImage and textsOfObjects are all texts in them.
func textsOfImage(i link.Image) []string {
	var out []string
	for _, x := range i.Types {
		out = append(out, textsOfItem(x)...)
	}
	for _, g := range i.Globals {
		out = append(out, g.Name, g.Type)
	}
	for _, e := range i.Entries {
		out = append(out, e.Name, e.Type)
	}
	return out
}

func textsOfItem(x api.Item) []string {
	out := []string{x.Name, x.Type}
	for _, c := range x.Cases {
		out = append(append(out, c.Name), c.Fields...)
	}
	return out
}

func textsOfObjects(l []object.Object) []string {
	var out []string
	for _, o := range l {
		out = slices.Concat(append(out, o.Module), o.Texts, o.Exports)
		for _, x := range o.Types {
			out = append(out, textsOfItem(x)...)
		}
		for _, g := range o.Globals {
			out = append(out, g.Name, g.Type)
		}
		for _, f := range o.Funs {
			out = append(append(out, f.Name, f.Result), f.Params...)
		}
		for _, s := range o.Symbols {
			out = append(append(out, s.Module), textsOfItem(s.Item)...)
		}
	}
	return out
}

// R2: texts that are answered are none of those that were handed in.
func TestTextsAreNew(t *testing.T) {
	for what, l := range handed() {
		given := roomyFamily(l)
		places := map[*byte]string{}
		for _, s := range textsOfObjects(given) {
			if s != "" {
				places[unsafe.StringData(s)] = s
			}
		}
		got := linked(given)
		texts := append(textsOfImage(got.image), got.wrong.Importer, got.wrong.Module, got.wrong.Name)
		for _, roots := range someRoots(l) {
			for _, s := range roots {
				if s != "" {
					places[unsafe.StringData(s)] = s
				}
			}
			some, _, name := link.Roots(given, roots)
			texts = append(append(texts, textsOfObjects(some)...), name)
		}
		for _, s := range texts {
			if old, ok := places[unsafe.StringData(s)]; ok && s != "" {
				t.Errorf("%s: %q stands where %q stood", what, s, old)
			}
		}
	}
}
