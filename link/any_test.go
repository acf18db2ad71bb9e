package link_test

import (
	"math"
	"math/rand"
	"slices"
	"strings"
	"testing"

	"hawser/api"
	"hawser/link"
	"hawser/object"
)

// anyNumbers are such as no object should have, and some that it may.
func anyNumbers() []int {
	return []int{0, 0, 1, 2, 3, -1, -2, 23, 24, 255, 256, 65535, 65536, math.MaxInt, math.MinInt, math.MaxInt - 1, math.MinInt + 1, 1 << 31, 1 << 32}
}

func anyTexts() []string {
	return []string{"", "a", "b", "c", "m", "f", "T", "A", "num", "()num", "0", "1", "-1", "99999999999999999999", ".", "a.", ".a", "a.f", "\x00", "\xff", strings.Repeat("x", 300)}
}

// careless makes objects of whatever is in their lists.
type careless struct{ *rand.Rand }

func (c careless) number() int { return anyNumbers()[c.Intn(len(anyNumbers()))] }

func (c careless) text() string { return anyTexts()[c.Intn(len(anyTexts()))] }

func listBy[E any](c careless, one func() E) []E {
	var out []E
	for range c.Intn(5) {
		out = append(out, one())
	}
	return out
}

func (c careless) item() api.Item {
	return api.Item{Kind: c.Intn(5), Name: c.text(), Type: c.text(), Cases: listBy(c, func() api.Case { return api.Case{Name: c.text(), Fields: listBy(c, c.text)} })}
}

func (c careless) object() object.Object {
	return object.Object{
		Module:  c.text(),
		Types:   listBy(c, c.item),
		Texts:   listBy(c, c.text),
		Globals: listBy(c, func() object.Global { return object.Global{Name: c.text(), Type: c.text(), Fun: c.number()} }),
		Funs: listBy(c, func() object.Fun {
			return object.Fun{Name: c.text(), Params: listBy(c, c.text), Captures: c.number(), Result: c.text(), Locals: c.number(), Code: []byte(c.text())}
		}),
		Exports: listBy(c, c.text),
		Symbols: listBy(c, func() object.Symbol { return object.Symbol{Module: c.text(), Item: c.item()} }),
		Relocs:  listBy(c, func() object.Reloc { return object.Reloc{Fun: c.number(), At: c.number(), Sym: c.number()} }),
	}
}

// R1, R2, R3: whatever is handed in, each call ends, beside a refusal all else is zero, and what was handed in stands.
func TestAnything(t *testing.T) {
	c := careless{rand.New(rand.NewSource(19))}
	met := map[api.Errno]int{}
	for range 5000 {
		l := listBy(c, c.object)
		if c.Intn(20) == 0 {
			l = slices.Repeat(l, 5)
		}
		if c.Intn(2) == 0 {
			for k := range l {
				l[k].Symbols = nil
			}
		}
		wantAnything(t, l, listBy(c, c.text), met)
	}
	for _, why := range []api.Errno{api.OK, api.ErrMany, api.ErrTaken, api.ErrCycle, api.ErrMissing, api.ErrSignature, api.ErrNone} {
		if met[why] == 0 {
			t.Errorf("none is %v", why)
		}
	}
}

func wantAnything(t *testing.T, l []object.Object, roots []string, met map[api.Errno]int) {
	t.Helper()
	ahead := whole(l)
	got := linked(l)
	met[got.why]++
	if got.why != api.OK && told(got) != told(answer{why: got.why, wrong: got.wrong}) || got.why == api.OK && got.wrong != (link.Wrong{}) {
		t.Errorf("%.300s: %.300s", told(l), told(got))
	}
	some, why, name := link.Roots(l, roots)
	met[why]++
	if why != api.OK && len(some) > 0 || why == api.OK && name != "" {
		t.Errorf("Roots(%.300s, %q): %.300s, %v, %q", told(l), roots, told(some), why, name)
	}
	if whole(l) != ahead {
		t.Errorf("%.300s was changed", told(l))
	}
}

// R1: relocations that are none, one by one, beside one that is.
func TestWrongRelocations(t *testing.T) {
	for _, r := range []object.Reloc{{Fun: -1}, {Fun: 2}, {At: -1}, {At: 3}, {At: 4}, {Fun: 1}, {Sym: -1}, {Sym: 1}, {Fun: math.MaxInt}, {At: math.MaxInt}, {Sym: math.MaxInt}, {Fun: math.MinInt}, {At: math.MinInt}, {Sym: math.MinInt}} {
		m := made("m", fun("f", "abcd"), funs("g"), needs("m", funItem("g", "()num")), reloc(0, 2, 0))
		m.Relocs = append(m.Relocs, r)
		if got := linked([]object.Object{m}); got.why != api.OK || string(got.image.Funs[0].Code) != "ab\x00\x01" || got.stats != (link.Stats{Copied: 4, Patched: 2}) {
			t.Errorf("%+v: %s", r, told(got))
		}
	}
}
