package mean_test

import (
	"fmt"
	"math/rand"
	"slices"
	"strings"
	"testing"

	"hawser/api"
	"hawser/mean"
)

// importing are modules by name, each with those that it imports from: "a b c" imports from b and c.
func importing(l ...string) []api.Module {
	var out []api.Module
	for _, s := range l {
		names := strings.Fields(s)
		m := api.Module{Name: names[0]}
		for _, from := range names[1:] {
			m.Imports = append(m.Imports, api.Import{From: from, Name: "x"})
		}
		out = append(out, m)
	}
	return out
}

func toldOrder(l []api.Module) string {
	names, ok := mean.Order(l)
	return fmt.Sprint(names, ok)
}

// P12.1: what comes ahead of what, and what is none.
func TestOrder(t *testing.T) {
	for _, c := range []struct {
		l    []string
		want string
	}{
		{nil, "[] true"}, {[]string{"a"}, "[a] true"}, {[]string{"b", "a"}, "[a b] true"}, {[]string{"a b", "b"}, "[b a] true"}, {[]string{"b", "a b"}, "[b a] true"},
		{[]string{"a c", "b", "c"}, "[b c a] true"}, {[]string{"a z", "b", "z"}, "[b z a] true"}, {[]string{"a d", "b", "c a", "d"}, "[b d a c] true"}, {[]string{"d c b", "c a", "b a", "a"}, "[a b c d] true"}, {[]string{"a b", "b c", "c d", "d"}, "[d c b a] true"},
		{[]string{"a x y", "b x"}, "[a b] true"}, {[]string{"b a a a", "a"}, "[a b] true"}, {[]string{"c b", "b z", "a c", "d"}, "[b c a d] true"},
		{[]string{"a a"}, "[] false"}, {[]string{"a b", "b a"}, "[] false"}, {[]string{"a b", "b a", "c"}, "[] false"}, {[]string{"a b", "b c", "c a", "d a"}, "[] false"}, {[]string{"a", "b a c", "c b"}, "[] false"}, {[]string{"z", "b b"}, "[] false"},
		{[]string{"B", "a", "A", "ab"}, "[A B a ab] true"}, {[]string{"a10", "a9", "a1"}, "[a1 a10 a9] true"}, {[]string{"\xff", "\x00", "é"}, "[\x00 é \xff] true"},
	} {
		if got := toldOrder(importing(c.l...)); got != c.want {
			t.Errorf("Order(%q): %s, want %s", c.l, got, c.want)
		}
	}
}

// P12.1: a name that several modules have is told once, and the imports of all of them count.
func TestOrderOfOneName(t *testing.T) {
	for _, c := range []struct {
		l    []string
		want string
	}{
		{[]string{"a", "a"}, "[a] true"}, {[]string{"a", "a b", "b"}, "[b a] true"}, {[]string{"a b", "a", "b"}, "[b a] true"}, {[]string{"a b", "a c", "b", "c"}, "[b c a] true"}, {[]string{"a b", "b", "b a"}, "[] false"}, {[]string{"a", "a a"}, "[] false"},
	} {
		if got := toldOrder(importing(c.l...)); got != c.want {
			t.Errorf("Order(%q): %s, want %s", c.l, got, c.want)
		}
	}
}

// P12.1: what parse makes; an import without names is none.
func TestOrderOfSources(t *testing.T) {
	l := readAll(t, "(module a (import c x Y) (import b))", "(module b (import a z))", "(module c (import d) (import q r))")
	if got := toldOrder(l); got != "[c a b] true" {
		t.Error(got)
	}
}

// orderByModel takes the least name of those whose imports have all come, again and again.
func orderByModel(l []api.Module) string {
	left := map[string]bool{}
	for _, m := range l {
		left[m.Name] = true
	}
	var out []string
	for len(left) > 0 {
		next := ""
		for name := range left {
			waits := slices.ContainsFunc(l, func(m api.Module) bool {
				return m.Name == name && slices.ContainsFunc(m.Imports, func(one api.Import) bool { return left[one.From] })
			})
			if !waits && (next == "" || name < next) {
				next = name
			}
		}
		if next == "" {
			return fmt.Sprint([]string(nil), false)
		}
		out = append(out, next)
		delete(left, next)
	}
	return fmt.Sprint(out, true)
}

// P12.1, R4: modules by chance, in every order that chance gives.
func TestOrderByChance(t *testing.T) {
	rings := 0
	for k := range 5000 {
		c := rand.New(rand.NewSource(int64(k)))
		names := strings.Fields("a b c d e f g h i j")[:1+c.Intn(10)]
		var l []string
		for range c.Intn(12) {
			s := names[c.Intn(len(names))]
			for range c.Intn(3) {
				s += " " + names[c.Intn(len(names))]
			}
			l = append(l, s)
		}
		want := orderByModel(importing(l...))
		for range 3 {
			if got := toldOrder(importing(l...)); got != want {
				t.Fatalf("Order(%q): %s, want %s", l, got, want)
			}
			c.Shuffle(len(l), func(a, b int) { l[a], l[b] = l[b], l[a] })
		}
		if strings.HasSuffix(want, "false") {
			rings++
		}
	}
	if rings < 500 || rings > 4500 {
		t.Errorf("%d of 5000 have no order", rings)
	}
}

// Many modules, in one chain and without any.
func TestOrderOfMany(t *testing.T) {
	const many = 100000
	var chain, loose []api.Module
	for k := range many {
		name := func(k int) string { return fmt.Sprintf("m%06d", k) }
		chain = append(chain, api.Module{Name: name(k), Imports: []api.Import{{From: name(k + 1), Name: "x"}}})
		loose = append(loose, api.Module{Name: name(many - k)})
	}
	if got, ok := mean.Order(chain); !ok || len(got) != many || got[0] != "m099999" || got[many-1] != "m000000" {
		t.Error("chain:", len(got), ok)
	}
	if got, ok := mean.Order(loose); !ok || len(got) != many || got[0] != "m000001" || !slices.IsSorted(got) {
		t.Error("loose:", len(got), ok)
	}
	chain = append(chain, api.Module{Name: "m100000", Imports: []api.Import{{From: "m000000", Name: "x"}}})
	if got, ok := mean.Order(chain); ok || len(got) != 0 {
		t.Error("ring:", len(got), ok)
	}
}
