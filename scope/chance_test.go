package scope_test

import (
	"fmt"
	"math/rand"
	"slices"
	"strings"
	"testing"

	"hawser/api"
	"hawser/iface"
	"hawser/parse"
	"hawser/scope"
)

// chance makes modules and interfaces by chance, of few names, so that they meet often.
type chance struct{ *rand.Rand }

func (c chance) of(l ...string) string { return l[c.Intn(len(l))] }

func (c chance) value() string { return c.of("a", "b", "c", "d", "e", "n") }

func (c chance) big() string { return c.of("A", "B", "T", "U", "V", "W") }

func (c chance) caseName() string { return c.big() + c.of("", "a", "b", "c") }

func (c chance) other() string { return c.of("n", "n", "k", "k", "q") }

// typed is a type as a source tells it.
func (c chance) typed(deep int) string {
	switch n := c.Intn(20); {
	case n < 3 && deep > 0:
		return "(array " + c.typed(deep-1) + ")"
	case n < 6 && deep > 0:
		return "(fn (" + c.typed(deep-1) + strings.Repeat(" "+c.typed(deep-1), c.Intn(3)) + ") " + c.typed(deep-1) + ")"
	case n == 6:
		return c.other() + "." + c.big()
	case n == 7:
		return "m." + c.big()
	case n < 10 && deep == 2:
		return c.of(longBig, long(195), long(196), long(198), long(199))
	case n < 11:
		return "T"
	}
	return c.of("num", "bytes")
}

func (c chance) imports() string {
	s := "(import " + c.other()
	if c.Intn(30) == 0 {
		s = "(import m"
	}
	for range c.Intn(3) {
		s += " " + c.of(c.value(), c.big())
	}
	return s + ")"
}

func (c chance) typeDef() string {
	s := "(type " + c.big()
	for range 1 + c.Intn(3) {
		s += " (" + c.caseName() + strings.Repeat(" "+c.typed(2), c.Intn(3)) + ")"
	}
	return s + ")"
}

func (c chance) fun() string {
	s := "(fun " + c.value() + " ("
	for range c.Intn(3) {
		s += "(x " + c.typed(2) + ")"
	}
	return s + ") " + c.typed(2) + " 1)"
}

func (c chance) source() string {
	items := []string{longTypes}
	if c.Intn(4) > 0 {
		items = append(items, "(type T (Tt))")
	}
	for range c.Intn(7) {
		switch c.Intn(5) {
		case 0, 1:
			items = append(items, c.imports())
		case 2:
			items = append(items, c.typeDef())
		case 3:
			items = append(items, "(const "+c.value()+" "+c.typed(2)+" 1)")
		default:
			items = append(items, c.fun())
		}
	}
	c.Shuffle(len(items), func(a, b int) { items[a], items[b] = items[b], items[a] })
	return "(module m " + strings.Join(items, " ") + ")"
}

func (c chance) item() api.Item {
	typed := c.of("num", "bytes", "n.T", "[k.U]", "m.T")
	switch c.Intn(4) {
	case 0:
		return api.Item{Kind: api.Const, Name: c.value(), Type: typed}
	case 1:
		return api.Item{Kind: api.Fun, Name: c.value(), Type: "(num)" + typed}
	}
	x := api.Item{Kind: api.Type, Name: c.big()}
	for range 1 + c.Intn(3) {
		one := caseOf(c.caseName(), slices.Repeat([]string{typed}, c.Intn(4))...)
		if !slices.ContainsFunc(x.Cases, func(c api.Case) bool { return c.Name == one.Name }) {
			x.Cases = append(x.Cases, one)
		}
	}
	return x
}

// ifaces are right ones, some of one module.
func (c chance) ifaces() (l []api.Iface) {
	for range c.Intn(6) {
		i := api.Iface{Module: c.of("n", "k", "m", "q", "n", "k")}
		for range c.Intn(20) {
			i.Items = append(i.Items, c.item())
		}
		slices.SortStableFunc(i.Items, func(a, b api.Item) int { return strings.Compare(a.Name, b.Name) })
		i.Items = slices.CompactFunc(i.Items, func(a, b api.Item) bool { return a.Name == b.Name })
		l = append(l, i)
	}
	return l
}

// wantAsByScan: s answers of a name what the model does.
func wantAsByScan(t testing.TB, s *scope.Scope, m api.Module, l []api.Iface, name string) {
	t.Helper()
	x, isValue := valueByScan(m, l, name)
	owner, number, c, isCase := caseByScan(m, l, name)
	cases, isType := casesByScan(m, l, name)
	want := fmt.Sprintln(name, toldItem(x), isValue, owner, number, toldCase(c), isCase, toldCases(cases), isType, knownByScan(m, l, name))
	if got := answers(s, []string{name}); got != want {
		t.Errorf("%s: %s, want %s", parse.Print(m), got, want)
	}
}

// wantAllByScan: New answers what the model does, and so does the Scope of all names that may be in m.
func wantAllByScan(t testing.TB, m api.Module, l []api.Iface) api.Errno {
	t.Helper()
	why, name := newByFaults(m, l)
	if why != api.OK {
		wantRefused(t, m, l, why, name)
		return why
	}
	s := wantNew(t, m, l)
	for _, from := range []string{"", "m.", "n.", "k.", "q.", "n.n."} {
		for _, small := range []string{"", "a", "b", "c", "d", "e", "n", "x"} {
			wantAsByScan(t, s, m, l, from+small)
		}
		for _, big := range []string{"A", "B", "T", "U", "V", "W", "X", longBig} {
			for _, end := range []string{"", "a", "b", "c", "t"} {
				wantAsByScan(t, s, m, l, from+big+end)
			}
			wantAsByScan(t, s, m, l, "["+from+big+"]")
			wantAsByScan(t, s, m, l, "(num,"+from+big+")m.T")
		}
	}
	return why
}

// P8.1 and P8.2: modules by chance against interfaces by chance.
func TestByChance(t *testing.T) {
	c := chance{rand.New(rand.NewSource(1))}
	seen := map[api.Errno]int{}
	for range 10000 {
		l := c.ifaces()
		for _, i := range l {
			if why := iface.Right(i); why != api.OK {
				t.Fatalf("%v: %v", i, why)
			}
		}
		seen[wantAllByScan(t, parsed(t, c.source()), l)]++
	}
	for _, why := range []api.Errno{api.OK, api.ErrTaken, api.ErrName, api.ErrNone, api.ErrType, api.ErrLong} {
		if seen[why] < 100 {
			t.Errorf("too few modules are %v: %d", why, seen[why])
		}
	}
}

func FuzzNew(f *testing.F) {
	c := chance{rand.New(rand.NewSource(2))}
	for range 100 {
		f.Add(c.source())
	}
	f.Add(sourceM)
	f.Add(sourceN)
	f.Fuzz(func(t *testing.T, source string) {
		if m, why, _ := parse.Module(source); why == api.OK {
			wantAllByScan(t, m, others(t))
		}
	})
}
