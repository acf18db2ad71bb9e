package link_test

import (
	"math/rand"
	"slices"
	"strconv"
	"testing"

	"hawser/api"
	"hawser/object"
)

// chance makes families of objects that object.Right lets by, and that mostly fit together.
type chance struct{ *rand.Rand }

func (c chance) of(l ...string) string { return l[c.Intn(len(l))] }

func (c chance) rarely() bool { return c.Intn(60) == 0 }

func (c chance) some(l ...string) []string {
	var out []string
	for _, s := range l {
		if c.Intn(3) > 0 {
			out = append(out, s)
		}
	}
	c.Shuffle(len(out), func(i, j int) { out[i], out[j] = out[j], out[i] })
	return out
}

func (c chance) typed() string { return c.of("num", "bytes", "[num]", "()num", "a.T", "b.Nobody") }

func (c chance) types(n int) (l []string) {
	for range n {
		l = append(l, c.typed())
	}
	return l
}

func (c chance) fun(name string) object.Fun {
	f := object.Fun{Name: name, Result: c.typed(), Params: c.types(c.Intn(4)), Code: make([]byte, c.Intn(9))}
	if name == "" && c.Intn(2) == 0 {
		f.Captures = c.Intn(len(f.Params) + 1)
	}
	f.Locals = len(f.Params) + c.Intn(4)
	c.Read(f.Code)
	return f
}

// alone has all but symbols and relocations.
func (c chance) alone(module string) object.Object {
	o := object.Object{Module: module, Texts: c.types(c.Intn(3))}
	for _, name := range c.some("T", "A", "U") {
		x := typeItem(name, caseOf("A", c.types(c.Intn(3))...))
		if c.Intn(2) == 0 {
			x.Cases = append(x.Cases, caseOf("B"))
		}
		o.Types = append(o.Types, x)
	}
	for _, name := range c.some("f", "g", "", "h", "", "_") {
		o.Funs = append(o.Funs, c.fun(name))
	}
	if len(o.Funs) > 0 {
		for _, name := range c.some("c", "d", "b") {
			o.Globals = append(o.Globals, object.Global{Name: name, Type: c.typed(), Fun: c.Intn(len(o.Funs))})
		}
	}
	for _, x := range itemsOf(o) {
		if c.Intn(4) > 0 {
			o.Exports = append(o.Exports, x.Name)
		}
	}
	slices.Sort(o.Exports)
	return o
}

// itemsOf are all that have a name.
func itemsOf(o object.Object) []api.Item {
	items := slices.Clone(o.Types)
	for _, g := range o.Globals {
		items = append(items, constItem(g.Name, g.Type))
	}
	for _, f := range o.Funs {
		if f.Name != "" {
			items = append(items, funItem(f.Name, object.Sign(f)))
		}
	}
	return items
}

// turned is mostly the item itself.
func (c chance) turned(x api.Item) api.Item {
	if !c.rarely() {
		return x
	}
	switch c.Intn(4) {
	case 0:
		x.Name += c.of("1", "_")
	case 1:
		if x.Kind != api.Type {
			x.Kind = api.Const + api.Fun - x.Kind
		}
	case 2:
		x.Cases = slices.Clone(x.Cases)
		slices.Reverse(x.Cases)
	default:
		if x.Kind != api.Type {
			x.Type = "()" + x.Type
		}
	}
	return x
}

// ask gives o symbols of another one or of its own.
func (c chance) ask(o *object.Object, p object.Object) {
	for _, x := range itemsOf(p) {
		if c.Intn(3) > 0 && (o.Module == p.Module || slices.Contains(p.Exports, x.Name) || c.rarely()) {
			o.Symbols = append(o.Symbols, object.Symbol{Module: p.Module, Item: c.turned(x)})
		}
	}
}

func (c chance) askOwn(o *object.Object) {
	c.ask(o, *o)
	for k, f := range o.Funs {
		if f.Name == "" && c.Intn(2) == 0 {
			o.Symbols = append(o.Symbols, symbol(o.Module, funItem("", strconv.Itoa(k))))
		}
	}
	if c.rarely() && c.rarely() {
		o.Symbols = append(o.Symbols, symbol("nobody", funItem("f", "()num")))
	}
	c.Shuffle(len(o.Symbols), func(i, j int) { o.Symbols[i], o.Symbols[j] = o.Symbols[j], o.Symbols[i] })
}

func (c chance) relocate(o *object.Object) {
	if len(o.Symbols) == 0 {
		return
	}
	for n, f := range o.Funs {
		for at := range max(len(f.Code)-1, 0) {
			if c.Intn(3) == 0 {
				o.Relocs = append(o.Relocs, object.Reloc{Fun: n, At: at, Sym: c.Intn(len(o.Symbols))})
			}
		}
	}
}

func (c chance) family() []object.Object {
	names := c.some("a", "b", "b1", "_", "c", "aa", "z")
	if c.Intn(20) == 0 {
		names = append(names, c.some("a", "b", "c", "d", "e", "f", "g", "h", "i", "j", "k")...)
	}
	var l []object.Object
	for _, name := range names {
		l = append(l, c.alone(name))
	}
	plain := slices.Clone(l)
	for k := range l {
		for n, p := range plain {
			if n < k && c.Intn(2) == 0 || n > k && c.rarely() && c.Intn(3) == 0 {
				if plain[n].Module != l[k].Module {
					c.ask(&l[k], p)
				}
			}
		}
		c.askOwn(&l[k])
		c.relocate(&l[k])
	}
	c.Shuffle(len(l), func(i, j int) { l[i], l[j] = l[j], l[i] })
	return l
}

// wantAsModelled answers what became of them, or that one is none that object.Right lets by.
func wantAsModelled(t testing.TB, l []object.Object) (api.Errno, bool) {
	t.Helper()
	for _, o := range l {
		if why, _ := object.Right(o); why != api.OK {
			return 0, false
		}
	}
	got, want := linked(l), modelled(l)
	if told(got) != told(want) {
		t.Errorf("Objects(%.2000s): %.1000s, want %.1000s", told(l), told(got), told(want))
	}
	for _, roots := range someRoots(l) {
		if got, want := toldRoots(l, roots), modelledRoots(l, roots); got != want {
			t.Errorf("Roots(%.2000s, %q): %.1000s, want %.1000s", told(l), roots, got, want)
		}
	}
	if again := linked(l); told(again) != told(got) {
		t.Errorf("Objects(%.2000s): not the same again", told(l))
	}
	return got.why, true
}

// P19.1 to P19.4: families by chance answer what the model does, in whatever order they come.
func TestByChance(t *testing.T) {
	t.Parallel()
	c := chance{rand.New(rand.NewSource(1919))}
	met := map[api.Errno]int{}
	for range 1500 {
		l := c.family()
		why, ok := wantAsModelled(t, l)
		if !ok {
			continue
		}
		met[why]++
		if why == api.ErrTaken {
			continue
		}
		first := linked(l)
		for range 3 {
			c.Shuffle(len(l), func(i, j int) { l[i], l[j] = l[j], l[i] })
			if told(linked(l)) != told(first) {
				t.Errorf("%.2000s: another order, another answer", told(l))
			}
		}
	}
	for why, n := range map[api.Errno]int{api.OK: 500, api.ErrMany: 3, api.ErrTaken: 3, api.ErrCycle: 20, api.ErrMissing: 50, api.ErrSignature: 20} {
		if met[why] < n {
			t.Errorf("too few are %v: %d of %d", why, met[why], n)
		}
	}
}

func FuzzObjects(f *testing.F) {
	for k := range 20 {
		f.Add(int64(k))
	}
	f.Fuzz(func(t *testing.T, seed int64) {
		wantAsModelled(t, chance{rand.New(rand.NewSource(seed))}.family())
	})
}
