package iface_test

import (
	"fmt"
	"slices"
	"strings"
	"testing"
	"unsafe"

	"hawser/api"
	"hawser/iface"
)

// listsOf are hands that write over each list of an interface, spare room included.
func listsOf(i api.Iface) (hands []func()) {
	hands = append(hands, func() { scribble(i.Items, api.Item{Name: "scribbled"}) })
	for _, x := range i.Items {
		hands = append(hands, func() { scribble(x.Cases, api.Case{Name: "scribbled"}) })
		for _, c := range x.Cases {
			hands = append(hands, func() { scribble(c.Fields, "scribbled") })
		}
	}
	return hands
}

func scribble[E any](l []E, x E) {
	for k := range l[:cap(l)] {
		l[:cap(l)][k] = x
	}
}

// partsOf tells each list of an interface by itself, whatever the lists that hold it have become.
func partsOf(i api.Iface) (tell []func() string) {
	tell = append(tell, func() string { return fmt.Sprint(len(i.Items)) + toldNames(i.Items) })
	for _, x := range i.Items {
		tell = append(tell, func() string {
			s := ""
			for _, c := range x.Cases {
				s += c.Name + ";"
			}
			return s
		})
		for _, c := range x.Cases {
			tell = append(tell, func() string { return fmt.Sprintf("%q", c.Fields) })
		}
	}
	return tell
}

func toldNames(items []api.Item) (s string) {
	for _, x := range items {
		s += fmt.Sprintf(" %d %s %s", x.Kind, x.Name, x.Type)
	}
	return s
}

// wantApart: each list of what is answered is memory of its own, and another answer is not touched by what is written there.
func wantApart(t *testing.T, answer func() api.Iface) {
	t.Helper()
	want := told(answer())
	for k := range listsOf(answer()) {
		got := answer()
		hands, tell, ahead := listsOf(got), partsOf(got), []string{}
		for _, f := range tell {
			ahead = append(ahead, f())
		}
		hands[k]()
		for n, f := range tell {
			if n != k && f() != ahead[n] {
				t.Errorf("list %d shares memory with list %d: %s, was %s", n, k, f(), ahead[n])
			}
		}
		if again := told(answer()); again != want {
			t.Errorf("list %d: then it is %s, was %s", k, again, want)
		}
	}
}

func textsOf(i api.Iface) []string {
	l := []string{i.Module}
	for _, x := range i.Items {
		l = append(l, x.Name, x.Type)
		for _, c := range x.Cases {
			l = append(append(l, c.Name), c.Fields...)
		}
	}
	return l
}

// wantNoPieces: no text of an answer is a piece of one that was handed in.
func wantNoPieces(t *testing.T, answer, given []string) {
	t.Helper()
	for _, piece := range answer {
		for _, whole := range given {
			from, at := uintptr(unsafe.Pointer(unsafe.StringData(whole))), uintptr(unsafe.Pointer(unsafe.StringData(piece)))
			if piece != "" && from <= at && at < from+uintptr(len(whole)) {
				t.Errorf("%q is a piece of what was handed in", piece)
			}
		}
	}
}

// R2: what Of, Decode and Find answer.
func TestAnswersApart(t *testing.T) {
	m := parsed(t, wholeModule)
	wantApart(t, func() api.Iface {
		i, _ := iface.Of(m)
		return i
	})
	b := bytesByHand(ordinary())
	wantApart(t, func() api.Iface {
		i, _, _ := iface.Decode(b)
		return i
	})
	i := ordinary()
	wantApart(t, func() api.Iface {
		x, _ := iface.Find(i, "Ab")
		return with(x)
	})
}

// R2: what is handed in is not kept: no answer turns when it does.
func TestKeepsNothing(t *testing.T) {
	b := bytesByHand(ordinary())
	i, _, _ := iface.Decode(b)
	clear(b)
	if told(i) != told(ordinary()) {
		t.Errorf("Decode: %s", told(i))
	}
	given := ordinary()
	b, _ = iface.Encode(given)
	x, _ := iface.Find(given, "Ab")
	used := []string{strings.Clone("none"), strings.Clone("ba"), strings.Clone("Ab")}
	broken := iface.Breaks(given, with(), used)
	wantNoPieces(t, append(textsOf(api.Iface{Items: []api.Item{x}}), broken...), append(textsOf(given), used...))
	for _, f := range listsOf(given) {
		f()
	}
	scribble(used, "scribbled")
	if string(b) != string(bytesByHand(ordinary())) || toldItem(x) != toldItem(ordinary().Items[0]) || fmt.Sprint(broken) != "[Ab ba]" {
		t.Errorf("%x, %s, %q", b, toldItem(x), broken)
	}
	m := parsed(t, wholeModule)
	i, _ = iface.Of(m)
	texts := append([]string{m.Name}, m.Exports...)
	for _, def := range m.Types {
		texts = append(texts, textsOf(with(typeItem(def.Name, def.Cases...)))...)
	}
	for _, def := range m.Consts {
		texts = append(texts, def.Name, def.Type)
	}
	for _, def := range m.Funs {
		texts = append(texts, def.Name, def.Type)
	}
	wantNoPieces(t, textsOf(i), texts)
	scribble(m.Exports, "scribbled")
	scribble(m.Types[0].Cases, api.Case{})
	scribble(m.Types[1].Cases, api.Case{})
	if told(i) != told(wholeIface()) {
		t.Errorf("Of: %s", told(i))
	}
}

// roomy is l with room behind it, that holds what x says.
func roomy[E any](l []E, x E) []E { return append(slices.Clip(l), x, x)[:len(l)] }

// R2: what is handed in is not changed, spare room included.
func TestChangesNothing(t *testing.T) {
	spare := func() api.Iface {
		i := ordinary()
		slices.Reverse(i.Items)
		for k, x := range i.Items {
			for n, c := range x.Cases {
				x.Cases[n].Fields = roomy(c.Fields, "spare")
			}
			i.Items[k].Cases = roomy(x.Cases, caseOf("Spare"))
		}
		i.Items = roomy(i.Items, constItem("spare", "num"))
		return i
	}
	all := func(i api.Iface) string {
		i.Items = i.Items[:cap(i.Items)]
		s := told(i)
		for _, x := range i.Items {
			s += toldItem(api.Item{Cases: x.Cases[:cap(x.Cases)]})
			for _, c := range x.Cases {
				s += fmt.Sprint(c.Fields[:cap(c.Fields)])
			}
		}
		return s
	}
	i, next, used := spare(), spare(), roomy([]string{"c", "a", "c", "Ab", "T", "a"}, "spare")
	b := roomy(bytesByHand(ordinary()), 0xee)
	whole := all(i) + fmt.Sprint(used[:cap(used)], b[:cap(b)])
	iface.Right(i)
	iface.Encode(i)
	iface.Find(i, "c")
	iface.Same(i.Items[0], next.Items[0])
	iface.Breaks(i, next, used)
	iface.Breaks(i, with(), used)
	iface.Decode(b)
	if now := all(i) + fmt.Sprint(used[:cap(used)], b[:cap(b)]); now != whole || all(next) != all(i) {
		t.Errorf("%s, was %s", now, whole)
	}
	wantNotFound(t, i, "spare")
	wantBreaks(t, i, with(), roomy([]string{"c"}, "a"), "c")
}

// R2: Of changes nothing of its module, spare room included.
func TestOfChangesNothing(t *testing.T) {
	m := parsed(t, wholeModule)
	m.Exports = roomy(m.Exports, "none")
	m.Types = roomy(m.Types, api.TypeDef{Name: "none"})
	m.Consts = roomy(m.Consts, api.ConstDef{Name: "none"})
	m.Funs = roomy(m.Funs, api.FunDef{Name: "none"})
	m.Types[0].Cases = roomy(m.Types[0].Cases, caseOf("A"))
	all := func() string {
		return fmt.Sprint(m, m.Exports[:cap(m.Exports)], m.Types[:cap(m.Types)], m.Consts[:cap(m.Consts)], m.Funs[:cap(m.Funs)], m.Types[0].Cases[:cap(m.Types[0].Cases)])
	}
	whole := all()
	if i, why := iface.Of(m); told(i) != told(wholeIface()) || why != api.OK || all() != whole {
		t.Errorf("%s, %v; %s, was %s", told(i), why, all(), whole)
	}
	m.Exports = append(m.Exports, "none")
	if i, why := iface.Of(m); told(i) != told(api.Iface{}) || why != api.ErrNone {
		t.Errorf("%s, %v", told(i), why)
	}
}
