package object_test

import (
	"math"
	"math/rand"
	"slices"
	"strconv"
	"strings"
	"testing"

	"hawser/api"
	"hawser/object"
)

// chance makes objects by chance.
type chance struct{ *rand.Rand }

func (c chance) of(l ...string) string { return l[c.Intn(len(l))] }

func (c chance) number(l ...int) int { return l[c.Intn(len(l))] }

func (c chance) name(firsts string) string {
	s := string(firsts[c.Intn(len(firsts))])
	for range c.Intn(3) {
		s += string("abB_9"[c.Intn(5)])
	}
	return s
}

func (c chance) value() string { return c.name("abz_") }

func (c chance) big() string { return c.name("ABZ") }

func (c chance) typed(deep int) string {
	switch n := c.Intn(6); {
	case n == 0 && deep > 0:
		return "[" + c.typed(deep-1) + "]"
	case n == 1 && deep > 0:
		return "(" + strings.Join(c.types(c.Intn(4)), ",") + ")" + c.typed(deep-1)
	}
	return c.of("num", "bytes", "m.T", "n."+c.big())
}

func (c chance) types(n int) (l []string) {
	for range n {
		l = append(l, c.typed(1))
	}
	return l
}

func (c chance) typeItem(name string) api.Item {
	x := typeItem(name)
	for range 1 + c.Intn(6) {
		one := caseOf(c.big(), c.types(c.Intn(5))...)
		if !slices.ContainsFunc(x.Cases, func(c api.Case) bool { return c.Name == one.Name }) {
			x.Cases = append(x.Cases, one)
		}
	}
	return x
}

// names are new ones, each once.
func (c chance) names(n int, one func() string) (l []string) {
	for range n {
		if s := one(); !slices.Contains(l, s) {
			l = append(l, s)
		}
	}
	return l
}

func (c chance) fun(name string) object.Fun {
	captures := c.number(0, 0, 1, 2, 18)
	if name != "" {
		captures = 0
	}
	f := object.Fun{Name: name, Captures: captures, Result: c.typed(2), Params: c.types(captures + c.Intn(7))}
	f.Locals = len(f.Params) + c.Intn(25-len(f.Params))
	f.Code = make([]byte, c.number(0, 1, 2, 3, 10, 40))
	c.Read(f.Code)
	return f
}

// object is a right one.
func (c chance) object() object.Object {
	o := object.Object{Module: c.of("m", "m", c.value()), Texts: c.types(c.Intn(4))}
	for _, name := range c.names(c.Intn(4), c.big) {
		o.Types = append(o.Types, c.typeItem(name))
		o.Exports = append(o.Exports, name)
	}
	for _, name := range c.names(c.Intn(8), c.value) {
		if c.Intn(3) == 0 {
			o.Globals = append(o.Globals, object.Global{Name: name, Type: c.typed(2)})
		} else {
			o.Funs = append(o.Funs, c.fun(name))
		}
		o.Exports = append(o.Exports, name)
	}
	for range c.Intn(4) + len(o.Globals) {
		o.Funs = slices.Insert(o.Funs, c.Intn(len(o.Funs)+1), c.fun(""))
	}
	for k := range o.Globals {
		o.Globals[k].Fun = c.Intn(len(o.Funs))
	}
	slices.Sort(o.Exports)
	o.Exports = slices.DeleteFunc(o.Exports, func(string) bool { return c.Intn(2) == 0 })
	c.symbols(&o)
	c.relocs(&o)
	return o
}

func (c chance) symbols(o *object.Object) {
	for _, module := range append(c.names(c.Intn(4), c.value), o.Module) {
		for _, name := range c.names(c.Intn(4), c.value) {
			o.Symbols = append(o.Symbols, symbol(module, constItem(name, c.typed(2))))
		}
		for _, name := range c.names(c.Intn(3), c.value) {
			o.Symbols = append(o.Symbols, symbol(module, funItem(name, "("+strings.Join(c.types(c.Intn(3)), ",")+")num")))
		}
		for _, name := range c.names(c.Intn(2), c.big) {
			o.Symbols = append(o.Symbols, symbol(module, c.typeItem(name)))
		}
	}
	for n, f := range o.Funs {
		if f.Name == "" && c.Intn(2) == 0 {
			o.Symbols = append(o.Symbols, symbol(o.Module, funItem("", strconv.Itoa(n))))
		}
	}
	slices.SortFunc(o.Symbols, func(a, b object.Symbol) int {
		return strings.Compare(toldItem(a.Item)+a.Module, toldItem(b.Item)+b.Module)
	})
	o.Symbols = slices.CompactFunc(o.Symbols, func(a, b object.Symbol) bool {
		return a.Module == b.Module && a.Item.Kind == b.Item.Kind && a.Item.Name != "" && a.Item.Name == b.Item.Name
	})
	c.Shuffle(len(o.Symbols), func(a, b int) { o.Symbols[a], o.Symbols[b] = o.Symbols[b], o.Symbols[a] })
}

func (c chance) relocs(o *object.Object) {
	for n, f := range o.Funs {
		for at := range max(len(f.Code)-1, 0) {
			if len(o.Symbols) > 0 && c.Intn(4) == 0 {
				o.Relocs = append(o.Relocs, object.Reloc{Fun: n, At: at, Sym: c.Intn(len(o.Symbols))})
			}
		}
	}
}

func (c chance) oddText() string {
	return c.of("", "a", "A", "_", "1", "0", "num", "()num", "(num)", "m.T", "a b", "\xff", longSmall, longBig, longSmall+"a", longType, longFun, longType+"]", c.value(), c.big())
}

func (c chance) oddNumber() int {
	return c.number(0, 1, -1, 2, 3, 4, 6, 7, 24, 25, 255, 65535, 65536, math.MaxInt, math.MinInt, c.Intn(50))
}

func (c chance) hurtItem(x *api.Item) {
	switch c.Intn(6) {
	case 0:
		x.Kind = c.oddNumber()
	case 1:
		x.Name = c.oddText()
	case 2:
		x.Type = c.oddText()
	case 3:
		x.Cases = append(slices.Clone(x.Cases), caseOf(c.oddText(), c.types(c.Intn(6))...))
	case 4:
		x.Cases = nil
	case 5:
		if n := len(x.Cases); n > 0 {
			x.Cases = slices.Clone(x.Cases)
			x.Cases[c.Intn(n)].Fields = []string{"num", c.oddText()}
		}
	}
}

func (c chance) hurtFun(f *object.Fun) {
	switch c.Intn(6) {
	case 0:
		f.Name = c.oddText()
	case 1:
		f.Params = append(slices.Clone(f.Params), c.oddText())
	case 2:
		f.Captures = c.oddNumber()
	case 3:
		f.Result = c.oddText()
	case 4:
		f.Locals = c.oddNumber()
	case 5:
		f.Code = make([]byte, c.number(0, 1, 2, 2048, 2049))
	}
}

// odd puts in the place of one of a list another one of it, or the same, or takes it away.
func odd[E any](c chance, l []E, hurt func(*E)) []E {
	if len(l) == 0 {
		return l
	}
	l = slices.Clone(l)
	k, n := c.Intn(len(l)), c.Intn(len(l))
	switch c.Intn(8) {
	case 0:
		l[k], l[n] = l[n], l[k]
	case 1:
		l[k] = l[n]
	case 2:
		l = slices.Delete(l, k, k+1)
	case 3:
		l = slices.Insert(l, k, l[n])
	case 4:
		l = slices.Concat(l, many(c.number(1, 32, 48, 96, 384), l[n]))
	default:
		hurt(&l[k])
	}
	return l
}

// hurt is o with something otherwise, right or not.
func (c chance) hurt(o object.Object) object.Object {
	text := func(s *string) { *s = c.oddText() }
	switch c.Intn(10) {
	case 0:
		if c.Intn(4) == 0 {
			o.Module = c.oddText()
		}
	case 1:
		o.Types = odd(c, o.Types, c.hurtItem)
	case 2:
		o.Texts = odd(c, o.Texts, text)
	case 3:
		o.Globals = odd(c, o.Globals, func(g *object.Global) {
			*g = object.Global{Name: c.of(g.Name, c.oddText()), Type: c.of(g.Type, c.oddText()), Fun: c.number(g.Fun, c.oddNumber())}
		})
	case 4, 5:
		o.Funs = odd(c, o.Funs, c.hurtFun)
	case 6:
		o.Exports = odd(c, o.Exports, text)
	case 7, 8:
		o.Symbols = odd(c, o.Symbols, func(s *object.Symbol) {
			if c.Intn(4) == 0 {
				s.Module = c.oddText()
			} else {
				c.hurtItem(&s.Item)
			}
		})
	case 9:
		o.Relocs = odd(c, o.Relocs, func(r *object.Reloc) {
			*r = object.Reloc{Fun: c.number(r.Fun, c.oddNumber()), At: c.number(r.At, c.oddNumber()), Sym: c.number(r.Sym, c.oddNumber())}
		})
	}
	return o
}

// wantAsModel: all calls answer of o what the model does.
func wantAsModel(t *testing.T, o object.Object) api.Errno {
	t.Helper()
	wantWhy, wantN := rightByFaults(o)
	if why, n := object.Right(o); why != wantWhy || n != wantN {
		t.Fatalf("Right(%.2000s): %v, %d, want %v, %d", told(o), why, n, wantWhy, wantN)
	}
	wantBytes, wantEncoded := encodeByHand(o)
	if b, why := object.Encode(o); string(b) != string(wantBytes) || why != wantEncoded {
		t.Fatalf("Encode(%.2000s): %x, %v, want %x, %v", told(o), b, why, wantBytes, wantEncoded)
	}
	want := api.Iface{}
	if wantWhy == api.OK {
		want = ifaceByTaking(o)
	}
	if i, why := object.Iface(o); toldIface(i) != toldIface(want) || why != wantWhy {
		t.Fatalf("Iface(%.2000s): %s, %v, want %s, %v", told(o), toldIface(i), why, toldIface(want), wantWhy)
	}
	if l := object.Imports(o); !slices.Equal(l, importsByMap(o)) {
		t.Fatalf("Imports(%.2000s): %q, want %q", told(o), l, importsByMap(o))
	}
	for _, f := range o.Funs {
		if s := object.Sign(f); s != signByHand(f) {
			t.Fatalf("Sign(%q): %s, want %s", f.Params, s, signByHand(f))
		}
	}
	return wantWhy
}

// P14.1 to P14.4 of right objects.
func TestObjectsByChance(t *testing.T) {
	t.Parallel()
	c := chance{rand.New(rand.NewSource(14))}
	for range 3000 {
		o := c.object()
		if why := wantAsModel(t, o); why != api.OK {
			t.Fatalf("%s: %v", told(o), why)
		}
		if b := bytesByHand(o); len(b) <= api.MaxObject {
			wantRound(t, "by chance", o, b)
		}
	}
}

// P14.1 of objects that were hurt: the first refusal.
func TestHurtObjectsByChance(t *testing.T) {
	t.Parallel()
	c := chance{rand.New(rand.NewSource(141))}
	met := map[api.Errno]int{}
	for range 8000 {
		o := c.object()
		for range c.number(1, 1, 2, 3) {
			o = c.hurt(o)
		}
		met[wantAsModel(t, o)]++
		if b := bytesByHand(o); len(b) <= api.MaxObject {
			wantAsByThrows(t, b)
		}
	}
	for _, why := range []api.Errno{api.OK, api.ErrLong, api.ErrMany, api.ErrForm, api.ErrName, api.ErrTaken, api.ErrNone, api.ErrType, api.ErrCount, api.ErrRef} {
		if met[why] < 10 {
			t.Errorf("%v met only %d times", why, met[why])
		}
	}
}

// P14.2 and P14.4 of bytes that were cut, and of which some were turned.
func TestBytesByChance(t *testing.T) {
	t.Parallel()
	c := chance{rand.New(rand.NewSource(142))}
	met := map[api.Errno]int{}
	for range 8000 {
		b := bytesByHand(c.object())
		if len(b) > api.MaxObject {
			continue
		}
		switch c.Intn(8) {
		case 0:
			b = append(b, byte(c.Intn(256)))
		case 1, 2:
			b = b[:c.Intn(len(b))]
		}
		for range c.number(0, 1, 1, 2) {
			if len(b) > 0 {
				b[c.Intn(len(b))] = byte(c.number(0, 1, 2, 3, 6, 24, 25, 127, 128, 255, c.Intn(256)))
			}
		}
		met[wantAsByThrows(t, b)]++
	}
	for _, why := range []api.Errno{api.OK, api.ErrEnd, api.ErrTail, api.ErrLong, api.ErrForm, api.ErrName, api.ErrType} {
		if met[why] < 50 {
			t.Errorf("%v met only %d times", why, met[why])
		}
	}
}

func FuzzDecode(f *testing.F) {
	for _, o := range rights() {
		b := bytesByHand(o)
		f.Add(b)
		f.Add(b[:len(b)-1])
	}
	f.Add([]byte(ordinaryBytes + "\x00"))
	f.Fuzz(func(t *testing.T, b []byte) { wantAsByThrows(t, b) })
}

func FuzzObjects(f *testing.F) {
	f.Add(int64(1), uint8(0))
	f.Add(int64(2), uint8(3))
	f.Fuzz(func(t *testing.T, seed int64, hurts uint8) {
		c := chance{rand.New(rand.NewSource(seed))}
		o := c.object()
		for range hurts % 5 {
			o = c.hurt(o)
		}
		wantAsModel(t, o)
	})
}
