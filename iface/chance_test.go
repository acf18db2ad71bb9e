package iface_test

import (
	"math/rand"
	"slices"
	"strings"
	"testing"

	"hawser/api"
	"hawser/iface"
)

// chance makes interfaces by chance.
type chance struct{ *rand.Rand }

func (c chance) of(l ...string) string { return l[c.Intn(len(l))] }

func (c chance) name(firsts, rest string) string {
	s := string(firsts[c.Intn(len(firsts))])
	for range c.Intn(4) {
		s += string(rest[c.Intn(len(rest))])
	}
	return s
}

func (c chance) value() string { return c.name("abz_", "aB_9") }

func (c chance) big() string { return c.name("ABZ", "aB_9") }

func (c chance) typed(deep int) string {
	switch n := c.Intn(6); {
	case n == 0 && deep > 0:
		return "[" + c.typed(deep-1) + "]"
	case n == 1 && deep > 0:
		return c.function(deep - 1)
	}
	return c.of("num", "bytes", "m.T", "n."+c.big())
}

func (c chance) function(deep int) string {
	var params []string
	for range c.Intn(4) {
		params = append(params, c.typed(deep))
	}
	return "(" + strings.Join(params, ",") + ")" + c.typed(deep)
}

func (c chance) typeItem(name string) api.Item {
	x := typeItem(name)
	for range 1 + c.Intn(6) {
		one := caseOf(c.big())
		for range c.Intn(5) {
			one.Fields = append(one.Fields, c.typed(2))
		}
		if !slices.ContainsFunc(x.Cases, func(c api.Case) bool { return c.Name == one.Name }) {
			x.Cases = append(x.Cases, one)
		}
	}
	return x
}

func (c chance) item() api.Item {
	switch c.Intn(3) {
	case 0:
		return c.typeItem(c.big())
	case 1:
		return constItem(c.value(), c.typed(3))
	}
	return funItem(c.value(), c.function(2))
}

// iface is a right one.
func (c chance) iface() api.Iface {
	i := api.Iface{Module: c.value()}
	for range c.Intn(10) {
		i.Items = append(i.Items, c.item())
	}
	slices.SortFunc(i.Items, func(a, b api.Item) int { return strings.Compare(a.Name, b.Name) })
	i.Items = slices.CompactFunc(i.Items, func(a, b api.Item) bool { return a.Name == b.Name })
	return i
}

func (c chance) odd() string {
	return c.of("", "a", "A", "_", "1", "num", "()num", "(num)", "m.T", "a b", "\xff", longSmall, longBig, longSmall+"a", longType, longFun, longType+"]", c.value(), c.big())
}

// turned is i with some things otherwise, right or not.
func (c chance) turned(i api.Iface) api.Iface {
	for range 1 + c.Intn(3) {
		if len(i.Items) == 0 || c.Intn(20) == 0 {
			i.Module = c.odd()
			continue
		}
		k, n := c.Intn(len(i.Items)), c.Intn(len(i.Items))
		x := &i.Items[k]
		switch c.Intn(9) {
		case 0:
			x.Kind = c.Intn(6) - 1
		case 1:
			x.Name = c.odd()
		case 2:
			x.Type = c.odd()
		case 3:
			i.Items[k], i.Items[n] = i.Items[n], i.Items[k]
		case 4:
			i.Items[k] = i.Items[n]
		case 5:
			x.Cases = append(slices.Clone(x.Cases), c.typeItem("T").Cases...)
		case 6:
			i.Items = append(i.Items, manyConsts(c.Intn(40))...)
		default:
			c.turnCases(x)
		}
	}
	return i
}

func (c chance) turnCases(x *api.Item) {
	if len(x.Cases) == 0 {
		return
	}
	x.Cases = slices.Clone(x.Cases)
	one := &x.Cases[c.Intn(len(x.Cases))]
	switch c.Intn(4) {
	case 0:
		one.Name = c.odd()
	case 1:
		one.Fields = append(slices.Clone(one.Fields), manyFields(c.Intn(4))...)
	case 2:
		one.Fields = append(slices.Clone(one.Fields), c.odd())
	default:
		x.Cases = x.Cases[:c.Intn(len(x.Cases))]
	}
}

// P7.1, P7.3 and P7.5: interfaces by chance, right and turned.
func TestByChance(t *testing.T) {
	c := chance{rand.New(rand.NewSource(1))}
	seen := map[api.Errno]int{}
	for range 20000 {
		wantWhy(t, c.iface(), api.OK)
		i := c.turned(c.iface())
		why := rightByFaults(i)
		wantWhy(t, i, why)
		seen[why]++
	}
	for _, why := range []api.Errno{api.OK, api.ErrName, api.ErrMany, api.ErrForm, api.ErrCount, api.ErrType} {
		if seen[why] < 100 {
			t.Errorf("too few interfaces are %v: %d", why, seen[why])
		}
	}
}

// P7.3: bytes by chance: of interfaces, right or not, with some of them otherwise.
func TestBytesByChance(t *testing.T) {
	c := chance{rand.New(rand.NewSource(2))}
	seen := map[api.Errno]int{}
	for range 20000 {
		i := c.iface()
		if c.Intn(2) == 0 {
			i = c.turned(i)
		}
		b := bytesByHand(i)
		for range c.Intn(3) {
			k := c.Intn(len(b))
			switch c.Intn(4) {
			case 0:
				b[k] = byte(c.Intn(256))
			case 1:
				b[k] = byte(c.Intn(8))
			case 2:
				b = slices.Delete(b, k, min(len(b), k+c.Intn(3)))
			default:
				b = slices.Insert(b, k, byte(c.Intn(256)))
			}
			if len(b) == 0 {
				break
			}
		}
		seen[wantAsByThrows(t, b)]++
	}
	for _, why := range []api.Errno{api.OK, api.ErrEnd, api.ErrTail, api.ErrLong, api.ErrName, api.ErrForm, api.ErrType} {
		if seen[why] < 100 {
			t.Errorf("too few bytes are %v: %d", why, seen[why])
		}
	}
}

// P7.4: Find, Same and Breaks of what is much alike.
func TestFindByChance(t *testing.T) {
	c := chance{rand.New(rand.NewSource(3))}
	for range 10000 {
		old := c.iface()
		next := api.Iface{Module: old.Module, Items: slices.Clone(old.Items)}
		if c.Intn(2) == 0 {
			next = c.turned(next)
		}
		var used []string
		for range c.Intn(12) {
			used = append(used, c.of(c.value(), c.big(), "none", ""))
		}
		for _, x := range old.Items {
			if c.Intn(3) > 0 {
				used = append(used, x.Name)
			}
		}
		c.Shuffle(len(used), func(a, b int) { used[a], used[b] = used[b], used[a] })
		wantBreaks(t, old, next, used, breaksByTexts(old, next, used)...)
		wantBreaks(t, next, old, used, breaksByTexts(next, old, used)...)
		for _, a := range old.Items {
			wantFound(t, old, a.Name, a)
			for _, b := range next.Items {
				if iface.Same(a, b) != (toldItem(a) == toldItem(b)) {
					t.Errorf("Same(%s, %s)", toldItem(a), toldItem(b))
				}
			}
		}
	}
}

func FuzzDecode(f *testing.F) {
	c := chance{rand.New(rand.NewSource(4))}
	for range 100 {
		f.Add(bytesByHand(c.iface()))
	}
	f.Add(bytesByHand(ordinary()))
	f.Fuzz(func(t *testing.T, b []byte) { wantAsByThrows(t, b) })
}
