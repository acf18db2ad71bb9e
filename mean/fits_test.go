package mean_test

import (
	"math"
	"math/rand"
	"slices"
	"strings"
	"testing"

	"hawser/api"
	"hawser/iface"
	"hawser/mean"
	numbers "hawser/num"
	"hawser/types"
)

func caseOf(name string, fields ...string) api.Case { return api.Case{Name: name, Fields: fields} }

func typeOf(name string, cases ...api.Case) api.Item {
	return api.Item{Kind: api.Type, Name: name, Cases: cases}
}

// interfaces are two, whose types stand in each other.
func interfaces(t testing.TB) []api.Iface {
	l := []api.Iface{
		{Module: "m", Items: []api.Item{
			typeOf("T", caseOf("A"), caseOf("B", "num", "[m.T]"), caseOf("C", "n.T", "bytes", "[[num]]", "m.T")),
			typeOf("U", caseOf("F", "()num"), caseOf("G", "[()num]"), caseOf("H")),
			{Kind: api.Const, Name: "c", Type: "num"},
			{Kind: api.Fun, Name: "f", Type: "()num"},
		}},
		{Module: "n", Items: []api.Item{typeOf("T", caseOf("D", "m.T"), caseOf("E", "q.T"))}},
	}
	for _, i := range l {
		if why := iface.Right(i); why != api.OK {
			t.Fatal(i, why)
		}
	}
	return l
}

// repeated is an array of so many.
func repeated(v api.Value, many int) api.Value { return array(slices.Repeat([]api.Value{v}, many)...) }

func wantFits(t *testing.T, of string, want bool, l ...api.Value) {
	t.Helper()
	for k, v := range l {
		if mean.Fits(interfaces(t), of, v) != want {
			t.Errorf("Fits(%s), value %d, %.200s: not %v", of, k, told(v), want)
		}
	}
}

// P12.2: what may be handed in.
func TestFits(t *testing.T) {
	wantFits(t, "num", true, num(0), num(3i), num(-1048576+1048576i), num(complex(negativeZero(), negativeZero())))
	wantFits(t, "bytes", true, text(""), api.Value{Kind: api.Bytes}, text("a\x00"), text(strings.Repeat("x", 2048)))
	wantFits(t, "[num]", true, array(), nums(1), nums(2047))
	wantFits(t, "[[bytes]]", true, array(), array(array()), array(array(text("a")), array()), repeated(array(), 2047), array(repeated(text(""), 2046)), array(repeated(text(strings.Repeat("x", 2048)), 2046)))
	wantFits(t, "m.T", true, variant(0), variant(1, num(1), array()), variant(1, num(1), array(variant(0), variant(1, num(2), array()))), variant(2, variant(0, variant(0)), text("b"), array(nums(2), nums(0)), variant(0)))
	wantFits(t, "n.T", true, variant(0, variant(0)), variant(0, variant(1, num(1), array())))
	wantFits(t, "[n.T]", true, array(), array(variant(0, variant(0))))
}

// P12.2: values of another kind, and values in what their Kind doesn't name.
func TestFitsNot(t *testing.T) {
	wantFits(t, "num", false, num(0.5), num(complex(0, 0.5)), num(1048577), num(-1048577i), num(complex(math.NaN(), 0)), num(complex(0, math.Inf(1))), text(""), array(), variant(0), closure(), api.Value{}, api.Value{Kind: 6}, api.Value{Kind: -1})
	wantFits(t, "bytes", false, text(strings.Repeat("x", 2049)), num(0), array(), variant(0), closure(), api.Value{}, array(num(1)))
	wantFits(t, "[num]", false, num(1), text("a"), array(text("a")), array(num(1), num(0.5)), array(num(1), api.Value{}), array(array()), array(closure()), variant(0), closure(), api.Value{}, repeated(num(1), 2048), repeated(num(1), 2049))
	wantFits(t, "m.T", false, num(0), text(""), array(), closure(), api.Value{}, variant(3), variant(-1), variant(0, num(1)), variant(1), variant(1, num(1)), variant(1, num(1), array(), num(1)), variant(1, array(), num(1)), variant(1, num(1), array(num(1))), variant(1, num(0.5), array()), variant(math.MaxInt), variant(math.MinInt))
	wantFits(t, "[[num]]", false, array(num(1)), array(array(text(""))), nums(1))
	for _, v := range []api.Value{num(1), text("a"), array(), variant(0)} {
		of := map[int]string{api.Num: "num", api.Bytes: "bytes", api.Array: "[num]", api.Variant: "m.T"}[v.Kind]
		wantFits(t, of, true, v)
		for kind, spoil := range map[int]func(*api.Value){
			api.Num:     func(v *api.Value) { v.N = 1 },
			-api.Num:    func(v *api.Value) { v.N = complex(0, math.NaN()) },
			api.Bytes:   func(v *api.Value) { v.B = []byte{0} },
			api.Array:   func(v *api.Value) { v.Kids = []api.Value{{}} },
			api.Variant: func(v *api.Value) { v.Case = 1 },
		} {
			spoilt := v
			spoil(&spoilt)
			named := kind == v.Kind && kind <= api.Bytes
			wantFits(t, of, named, spoilt)
			wantFits(t, "["+of+"]", named, array(spoilt))
		}
	}
	wantFits(t, "bytes", true, api.Value{Kind: api.Bytes, B: []byte{}, Kids: []api.Value{}})
}

// P12.2: closures never fit; what holds none does, whatever it could hold.
func TestFitsClosure(t *testing.T) {
	wantFits(t, "()num", false, closure(), num(1), api.Value{}, variant(0), array())
	wantFits(t, "(num)[num]", false, closure(), array())
	wantFits(t, "[()num]", true, array())
	wantFits(t, "[()num]", false, array(closure()), array(num(1)), closure())
	wantFits(t, "m.U", true, variant(1, array()), variant(2))
	wantFits(t, "m.U", false, variant(0, closure()), variant(0, num(1)), variant(1, array(closure())), variant(2, closure()))
}

// P12.2: named types whose Cases no interface has, and texts that are no types.
func TestFitsNoType(t *testing.T) {
	for _, of := range []string{"m.V", "q.T", "m.c", "m.f", "T", "", "x", "m.", ".T", "Num", "num ", "m.T ", "[m.T", "m.T]", "[]", "[num", "()", "(num)"} {
		wantFits(t, of, false, variant(0), num(1), text(""), array(), closure(), api.Value{})
	}
	wantFits(t, "[x]", false, array())
	wantFits(t, "["+strings.Repeat("[", 199)+"num"+strings.Repeat("]", 200), false, array())
	wantFits(t, "n.T", false, variant(1, variant(0)), variant(1))
	wantFits(t, "[q.T]", true, array())
	wantFits(t, "[q.T]", false, array(variant(0)))
	for _, l := range [][]api.Iface{nil, {}, {{Module: "m"}}, {{Module: "n", Items: interfaces(t)[0].Items}}} {
		if mean.Fits(l, "m.T", variant(0)) {
			t.Errorf("m.T of %v", l)
		}
		if !mean.Fits(l, "[num]", nums(3)) {
			t.Errorf("[num] of %v", l)
		}
	}
}

// P12.2: of two interfaces that have one type the first counts; one that lacks it doesn't.
func TestFitsOneModuleTwice(t *testing.T) {
	one := api.Iface{Module: "m", Items: []api.Item{typeOf("T", caseOf("A", "num"))}}
	two := api.Iface{Module: "m", Items: []api.Item{typeOf("T", caseOf("A")), typeOf("U", caseOf("B"))}}
	for _, c := range []struct {
		l    []api.Iface
		of   string
		v    api.Value
		want bool
	}{
		{[]api.Iface{one, two}, "m.T", variant(0, num(1)), true}, {[]api.Iface{one, two}, "m.T", variant(0), false}, {[]api.Iface{two, one}, "m.T", variant(0), true}, {[]api.Iface{two, one}, "m.T", variant(0, num(1)), false}, {[]api.Iface{one, two}, "m.U", variant(0), true},
	} {
		if mean.Fits(c.l, c.of, c.v) != c.want {
			t.Errorf("%v, %s: not %v", c.l, c.of, c.want)
		}
	}
}

// P12.2: MaxShown values in all, and one more, wherever they stand; each place counts.
func TestFitsMaxShown(t *testing.T) {
	chain := func(long int) api.Value {
		v := variant(0)
		for range long - 1 {
			v = variant(0, v)
		}
		return v
	}
	l := []api.Iface{{Module: "m", Items: []api.Item{typeOf("T", caseOf("S", "m.T"), caseOf("L")), typeOf("W", caseOf("P", "m.W", "m.W"), caseOf("Q"))}}}
	end := func(v api.Value) api.Value { // its last one an L
		at := &v
		for len(at.Kids) > 0 {
			at = &at.Kids[0]
		}
		at.Case = 1
		return v
	}
	pairs := func(deep int) api.Value {
		v := variant(1)
		for range deep {
			v = variant(0, v, v)
		}
		return v
	}
	for k, c := range []struct {
		of   string
		v    api.Value
		want bool
	}{
		{"m.T", end(chain(2048)), true}, {"m.T", end(chain(2049)), false}, {"[m.T]", array(end(chain(2047))), true}, {"[m.T]", array(end(chain(2048))), false}, {"m.W", pairs(10), true}, {"m.W", pairs(11), false}, {"m.W", pairs(60), false}, {"[m.W]", array(pairs(10)), true}, {"[m.W]", array(pairs(10), variant(1)), false}, {"[[num]]", repeated(nums(0), 2047), true}, {"[[num]]", repeated(nums(0), 2048), false}, {"[[num]]", repeated(nums(1), 1023), true}, {"[[num]]", repeated(nums(1), 1024), false},
	} {
		if mean.Fits(l, c.of, c.v) != c.want {
			t.Errorf("value %d: not %v", k, c.want)
		}
	}
}

// R1: a value that stands in itself, which has no end, does not fit.
func TestFitsRing(t *testing.T) {
	l := []api.Iface{{Module: "m", Items: []api.Item{typeOf("T", caseOf("S", "m.T"), caseOf("P", "[m.T]"))}}}
	one := make([]api.Value, 1)
	one[0] = variant(0, one...)
	one[0].Kids = one
	two := make([]api.Value, 2)
	for k := range two {
		two[k] = api.Value{Kind: api.Variant, Case: 1, Kids: []api.Value{{Kind: api.Array, Kids: two}}}
	}
	for _, v := range []api.Value{one[0], two[0], array(one...)} {
		for _, of := range []string{"m.T", "[m.T]", "[[num]]", "num"} {
			if mean.Fits(l, of, v) {
				t.Errorf("a ring fits %s", of)
			}
		}
	}
}

// fitsByModel tells P12.2 once more: the count first, then what is in a value, by the text of the type.
func fitsByModel(l []api.Iface, of string, v api.Value) bool {
	return countOf(v) <= 2048 && fitsInside(l, of, v)
}

func fitsInside(l []api.Iface, of string, v api.Value) bool {
	bare := api.Value{Kind: v.Kind}
	var fields []string
	switch {
	case of == "num" && v.Kind == api.Num && numbers.Right(v.N):
		bare.N = v.N
	case of == "bytes" && v.Kind == api.Bytes && len(v.B) <= 2048:
		bare.B = v.B
	case strings.HasPrefix(of, "[") && types.Right(of) && v.Kind == api.Array:
		fields = slices.Repeat([]string{of[1 : len(of)-1]}, len(v.Kids))
	case v.Kind == api.Variant && !strings.ContainsAny(of, "[("):
		module, name, _ := strings.Cut(of, ".")
		at := slices.IndexFunc(l, func(i api.Iface) bool { return i.Module == module })
		if at < 0 {
			return false
		}
		item, ok := iface.Find(l[at], name)
		if !ok || v.Case < 0 || v.Case >= len(item.Cases) {
			return false
		}
		bare.Case, fields = v.Case, item.Cases[v.Case].Fields
	default:
		return false
	}
	if len(fields) != len(v.Kids) {
		return false
	}
	for k, field := range fields {
		if !fitsInside(l, field, v.Kids[k]) {
			return false
		}
	}
	bare.Kids = v.Kids
	return told(bare) == told(v)
}

// someValue is one that fits, if nothing slips and there is room.
func someValue(c *rand.Rand, l []api.Iface, of string, deep, slips int) api.Value {
	v := valueThatFits(c, l, of, deep, slips)
	if slips == 0 || c.Intn(slips) > 0 {
		return v
	}
	switch c.Intn(8) {
	case 0:
		v.N = []complex128{0, 1, 0.5, 1 << 21, complex(0, math.NaN())}[c.Intn(5)]
	case 1:
		v.B = make([]byte, []int{0, 1, 2048, 2049}[c.Intn(4)])
	case 2:
		v.Case = c.Intn(5) - 1
	case 3:
		v.Kind = c.Intn(7)
	case 4:
		v.Kids = append(v.Kids, num(1))
	case 5:
		v.Kids = v.Kids[:len(v.Kids)/2]
	case 6:
		v = closure()
	case 7:
		v = valueThatFits(c, l, []string{"num", "bytes", "[num]", "m.T", "n.T"}[c.Intn(5)], deep, slips)
	}
	return v
}

func valueThatFits(c *rand.Rand, l []api.Iface, of string, deep, slips int) api.Value {
	if deep < -9 { // a type that has no values that end
		return closure()
	}
	if elem, ok := types.Elem(of); ok {
		v := array()
		for range c.Intn(4) * min(deep, 1) {
			v.Kids = append(v.Kids, someValue(c, l, elem, deep-1, slips))
		}
		return v
	}
	if module, name, ok := types.Named(of); ok {
		at := slices.IndexFunc(l, func(i api.Iface) bool { return i.Module == module })
		if at < 0 {
			return variant(0)
		}
		item, ok := iface.Find(l[at], name)
		if !ok {
			return variant(0)
		}
		number := c.Intn(len(item.Cases))
		for range 9 {
			fields := strings.Join(item.Cases[number].Fields, " ")
			if !strings.Contains(fields, "(") && (deep > 0 || !strings.Contains(strings.ReplaceAll(fields, "[t.", ""), ".")) {
				break
			}
			number = c.Intn(len(item.Cases))
		}
		v := variant(number)
		for _, field := range item.Cases[number].Fields {
			v.Kids = append(v.Kids, someValue(c, l, field, deep-1, slips))
		}
		return v
	}
	switch of {
	case "num":
		return num(complex(float64(c.Intn(9)-4), float64(c.Intn(3)-1)))
	case "bytes":
		return text("hawser"[:c.Intn(7)])
	}
	return closure()
}

// P12.2: values by chance.
func TestFitsByChance(t *testing.T) {
	l := interfaces(t)
	seen := map[bool]int{}
	for k := range 30000 {
		c := rand.New(rand.NewSource(int64(k)))
		of := []string{"num", "bytes", "[num]", "[[bytes]]", "m.T", "[m.T]", "n.T", "[n.T]", "m.U", "()num", "q.T", "x"}[c.Intn(12)]
		v := someValue(c, l, of, c.Intn(5), 10+c.Intn(40))
		want := fitsByModel(l, of, v)
		if got := mean.Fits(l, of, v); got != want {
			t.Fatalf("Fits(%s, %s): %v", of, told(v), got)
		}
		seen[want]++
	}
	if seen[true] < 5000 || seen[false] < 5000 {
		t.Error(seen)
	}
}
