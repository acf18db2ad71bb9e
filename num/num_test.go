package num_test

import (
	"math"
	"math/big"
	"math/rand"
	"regexp"
	"strings"
	"testing"

	"hawser/api"
	"hawser/num"
)

const most = api.MaxPart

var minusZero = math.Copysign(0, -1)

// ops are those of Two, of One, and some that are neither's.
var ops = []string{"add", "sub", "mul", "neg", "conj", "re", "im", "", "Add", "add ", " add", "addsub", "div", "lt", "eq", "ad", "mul\x00", "Neg", "abs", "\xff"}

// rightParts are whole parts within the bounds, the edges among them.
var rightParts = []int64{-most, -most + 1, -1025, -1024, -1023, -10, -2, -1, 0, 1, 2, 9, 10, 1023, 1024, 1025, most - 1, most}

// wrongParts are those that make a number wrong, whatever stands beside them.
var wrongParts = []float64{0.5, -0.5, 1.5, most + 1, -most - 1, most + 0.5, -most - 0.5, most - 0.5, math.Nextafter(0, 1), math.Nextafter(1, 2), math.Nextafter(1, 0), math.Nextafter(most, math.Inf(1)), math.Nextafter(-most, math.Inf(-1)), 1 << 31, 1 << 53, 1 << 62, 1 << 63, -1 << 63, 1e300, math.MaxFloat64, -math.MaxFloat64, math.SmallestNonzeroFloat64, math.Inf(1), math.Inf(-1), math.NaN()}

func whole(first, second int64) complex128 { return complex(float64(first), float64(second)) }

// wrongNumbers holds each wrong part as the first, as the second, and as both.
func wrongNumbers() []complex128 {
	var l []complex128
	for _, f := range wrongParts {
		l = append(l, complex(f, 0), complex(0, f), complex(f, f), complex(f, -3), complex(-3, f))
	}
	return l
}

// same holds the parts' bits against each other, so that -0 is not 0.
func same(a, b complex128) bool {
	return math.Float64bits(real(a)) == math.Float64bits(real(b)) && math.Float64bits(imag(a)) == math.Float64bits(imag(b))
}

func wantTwo(t *testing.T, op string, a, b, want complex128, why api.Errno) {
	t.Helper()
	if got, gotWhy := num.Two(op, a, b); !same(got, want) || gotWhy != why {
		t.Errorf("Two(%q, %v, %v): %v, %v, want %v, %v", op, a, b, got, gotWhy, want, why)
	}
}

func wantOne(t *testing.T, op string, a, want complex128, why api.Errno) {
	t.Helper()
	if got, gotWhy := num.One(op, a); !same(got, want) || gotWhy != why {
		t.Errorf("One(%q, %v): %v, %v, want %v, %v", op, a, got, gotWhy, want, why)
	}
}

func wantText(t *testing.T, c complex128, want string) {
	t.Helper()
	if got := num.Text(c); got != want {
		t.Errorf("Text(%v): %q, want %q", c, got, want)
	}
}

func wantParse(t *testing.T, s string, want complex128, ok bool) {
	t.Helper()
	if got, gotOK := num.Parse(s); !same(got, want) || gotOK != ok {
		t.Errorf("Parse(%q): %v, %v, want %v, %v", s, got, gotOK, want, ok)
	}
}

func TestRuns(t *testing.T) {
	wantTwo(t, "mul", 1+2i, 3-1i, 5+5i, api.OK)
	wantTwo(t, "add", 1<<20, 1, 0, api.ErrRange)

	wantText(t, -3i, "-3i")
	wantText(t, 2+1i, "2+1i")
	wantText(t, 0, "0")

	wantParse(t, "007", 7, true)
	wantParse(t, "2i", 2i, true)
	wantParse(t, "3+", 0, false)
	wantParse(t, "i", 0, false)
	wantParse(t, "+1", 0, false)
}

func TestExamples(t *testing.T) {
	wantOne(t, "neg", 0, 0, api.OK)
	if num.Right(0.5) {
		t.Errorf("Right(0.5)")
	}
	wantParse(t, "-0", 0, true)
}

func TestRight(t *testing.T) {
	for _, first := range rightParts {
		for _, second := range rightParts {
			if c := whole(first, second); !num.Right(c) {
				t.Errorf("Right(%v): false", c)
			}
		}
	}
	for _, c := range []complex128{complex(minusZero, 0), complex(0, minusZero), complex(minusZero, minusZero), complex(minusZero, most)} {
		if !num.Right(c) {
			t.Errorf("Right(%v): false", c)
		}
	}
	for _, c := range wrongNumbers() {
		if num.Right(c) {
			t.Errorf("Right(%v): true", c)
		}
	}
}

// P2.1 of Two, by hand: each bound of each part from both sides, and sums and products that are 0.
func TestTwo(t *testing.T) {
	for _, c := range []struct {
		op         string
		a, b, want complex128
		why        api.Errno
	}{
		{"add", 1 + 2i, 3 - 5i, 4 - 3i, api.OK},
		{"add", most - 1, 1, most, api.OK},
		{"add", -most, -1, 0, api.ErrRange},
		{"add", 1i, complex(0, most-1), complex(0, most), api.OK},
		{"add", 1i, complex(0, most), 0, api.ErrRange},
		{"add", -1i, complex(0, -most), 0, api.ErrRange},
		{"add", complex(most, most), complex(-most, -most), 0, api.OK},
		{"add", complex(minusZero, minusZero), complex(minusZero, minusZero), 0, api.OK},
		{"sub", 1 + 2i, 3 - 5i, -2 + 7i, api.OK},
		{"sub", 3 - 5i, 1 + 2i, 2 - 7i, api.OK},
		{"sub", 7 - 7i, 7 - 7i, 0, api.OK},
		{"sub", -most, 1, 0, api.ErrRange},
		{"sub", -most + 1, 1, -most, api.OK},
		{"sub", complex(0, -most), 1i, 0, api.ErrRange},
		{"sub", complex(minusZero, minusZero), 0, 0, api.OK},
		{"mul", 2 + 3i, 4 + 5i, -7 + 22i, api.OK},
		{"mul", 1i, 1i, -1, api.OK},
		{"mul", 0, -5, 0, api.OK},
		{"mul", -5 - 3i, 0, 0, api.OK},
		{"mul", 1024, 1024, most, api.OK},
		{"mul", -1024, 1024i, complex(0, -most), api.OK},
		{"mul", 1024, 1025, 0, api.ErrRange},
		{"mul", most, -1i, complex(0, -most), api.OK},
		{"mul", most, 2i, 0, api.ErrRange},
		{"mul", complex(most, most), complex(most, most), 0, api.ErrRange},
		{"mul", complex(most, most), complex(most, -most), 0, api.ErrRange},
		{"mul", complex(most, most), 1 - 1i, 0, api.ErrRange},
		{"mul", complex(most/2, most/2), 1 + 1i, complex(0, most), api.OK},
	} {
		wantTwo(t, c.op, c.a, c.b, c.want, c.why)
	}
}

// twoOf says by whole numbers what Two has to answer.
func twoOf(op string, a, b [2]int64) (complex128, api.Errno) {
	var first, second int64
	switch op {
	case "add":
		first, second = a[0]+b[0], a[1]+b[1]
	case "sub":
		first, second = a[0]-b[0], a[1]-b[1]
	case "mul":
		first, second = a[0]*b[0]-a[1]*b[1], a[0]*b[1]+a[1]*b[0]
	default:
		return 0, api.ErrArg
	}
	if max(first, -first, second, -second) > most {
		return 0, api.ErrRange
	}
	return whole(first, second), api.OK
}

// P2.1: of all edges beside each other, and of random numbers of every size.
func TestTwoAgainstModel(t *testing.T) {
	check := func(op string, a, b [2]int64) {
		t.Helper()
		want, why := twoOf(op, a, b)
		wantTwo(t, op, whole(a[0], a[1]), whole(b[0], b[1]), want, why)
	}
	for _, op := range []string{"add", "sub", "mul", "neg"} {
		for _, first := range rightParts {
			for _, second := range rightParts {
				for _, other := range rightParts {
					for _, last := range rightParts {
						check(op, [2]int64{first, second}, [2]int64{other, last})
					}
				}
			}
		}
	}
	x := rand.New(rand.NewSource(1))
	part := func() int64 {
		size := int64(1) << x.Intn(21)
		return x.Int63n(2*size+1) - size
	}
	for range 100000 {
		check(ops[x.Intn(len(ops))], [2]int64{part(), part()}, [2]int64{part(), part()})
	}
}

// P2.1 of One, with each sign of each part, so that each way of turning has a -0 to come by.
func TestOne(t *testing.T) {
	for _, first := range rightParts {
		for _, second := range rightParts {
			c := whole(first, second)
			wantOne(t, "neg", c, whole(-first, -second), api.OK)
			wantOne(t, "conj", c, whole(first, -second), api.OK)
			wantOne(t, "re", c, whole(first, 0), api.OK)
			wantOne(t, "im", c, whole(second, 0), api.OK)
		}
	}
	for _, op := range []string{"neg", "conj", "re", "im"} {
		wantOne(t, op, complex(minusZero, minusZero), 0, api.OK)
	}
}

// P2.1: an op of one of the calls is none of the other.
func TestWrongOps(t *testing.T) {
	for _, op := range ops[7:] {
		wantTwo(t, op, 1, 1, 0, api.ErrArg)
		wantOne(t, op, 1, 0, api.ErrArg)
	}
	for _, op := range ops[:3] {
		wantOne(t, op, 1, 0, api.ErrArg)
	}
	for _, op := range ops[3:7] {
		wantTwo(t, op, 1, 1, 0, api.ErrArg)
	}
	wantTwo(t, strings.Repeat("add", 10000), 1, 1, 0, api.ErrArg)
	wantTwo(t, "div", most, most, 0, api.ErrArg)
}

// P2.1 to P2.3 of numbers that are not right: refused, at either place, ahead of ErrRange.
func TestWrongNumbers(t *testing.T) {
	for _, c := range wrongNumbers() {
		for _, op := range ops {
			wantTwo(t, op, c, 0, 0, api.ErrArg)
			wantTwo(t, op, 0, c, 0, api.ErrArg)
			wantTwo(t, op, c, c, 0, api.ErrArg)
			wantTwo(t, op, c, complex(most, most), 0, api.ErrArg)
			wantOne(t, op, c, 0, api.ErrArg)
		}
		for _, right := range []complex128{0, complex(most, most), complex(-most, -most)} {
			if num.Less(c, right) || num.Less(right, c) {
				t.Errorf("Less of %v and %v: true", c, right)
			}
		}
		if n, ok := num.Index(c); n != 0 || ok {
			t.Errorf("Index(%v): %d, %v", c, n, ok)
		}
		wantText(t, c, "")
	}
}

// P2.1 of Less: the order of the first parts, then of the second.
func TestLess(t *testing.T) {
	for _, c := range []struct {
		a, b complex128
		want bool
	}{
		{1, 2, true},
		{2, 1, false},
		{1, 1, false},
		{-1, 0, true},
		{-2, -1, true},
		{1 + 1i, 1 + 2i, true},
		{1 + 2i, 1 + 1i, false},
		{1 - 2i, 1 - 1i, true},
		{1 + 9i, 2 - 9i, true},
		{2 - 9i, 1 + 9i, false},
		{complex(-most, -most), complex(-most, -most+1), true},
		{complex(most, most), complex(most, most), false},
		{complex(minusZero, 0), 0, false},
		{0, complex(minusZero, 0), false},
		{complex(0, minusZero), 0, false},
		{complex(0, 0), complex(minusZero, 1), true},
		{complex(minusZero, 1), 0, false},
	} {
		if got := num.Less(c.a, c.b); got != c.want {
			t.Errorf("Less(%v, %v): %v", c.a, c.b, got)
		}
	}
}

// P2.2
func TestIndex(t *testing.T) {
	for _, c := range []struct {
		c    complex128
		want int
		ok   bool
	}{
		{0, 0, true},
		{1, 1, true},
		{most, most, true},
		{complex(minusZero, minusZero), 0, true},
		{-1, 0, false},
		{-most, 0, false},
		{1i, 0, false},
		{3 + 1i, 0, false},
		{3 - 1i, 0, false},
		{complex(most, most), 0, false},
	} {
		if got, ok := num.Index(c.c); got != c.want || ok != c.ok {
			t.Errorf("Index(%v): %d, %v, want %d, %v", c.c, got, ok, c.want, c.ok)
		}
	}
}

// P2.3 of Text, and P2.4 of these.
func TestText(t *testing.T) {
	for _, c := range []struct {
		c    complex128
		want string
	}{
		{1, "1"},
		{-5, "-5"},
		{10, "10"},
		{most, "1048576"},
		{-most, "-1048576"},
		{1i, "1i"},
		{-1i, "-1i"},
		{complex(0, most), "1048576i"},
		{complex(0, -most), "-1048576i"},
		{2 - 1i, "2-1i"},
		{-2 + 1i, "-2+1i"},
		{-2 - 1i, "-2-1i"},
		{-5 + 9i, "-5+9i"},
		{complex(-most, -most), "-1048576-1048576i"},
		{complex(most, most), "1048576+1048576i"},
	} {
		wantText(t, c.c, c.want)
		wantParse(t, c.want, c.c, true)
	}
	wantText(t, complex(minusZero, minusZero), "0")
	wantText(t, complex(minusZero, -3), "-3i")
	wantText(t, complex(-3, minusZero), "-3")
}

// P2.3 of Parse: texts that Text does not write, and are numbers.
func TestParse(t *testing.T) {
	noughts := strings.Repeat("0", 100000)
	for _, c := range []struct {
		s    string
		want complex128
	}{
		{"-007", -7},
		{"00", 0},
		{"0i", 0},
		{"-0i", 0},
		{"-00i", 0},
		{"002i", 2i},
		{"0+0i", 0},
		{"-0-0i", 0},
		{"-0+5i", 5i},
		{"5-0i", 5},
		{"5+0i", 5},
		{"0-1i", -1i},
		{"3-04i", 3 - 4i},
		{"-03+004i", -3 + 4i},
		{noughts, 0},
		{"-" + noughts, 0},
		{noughts + "1", 1},
		{"1-" + noughts + "1048576i", complex(1, -most)},
		{"-01048576-01048576i", complex(-most, -most)},
	} {
		wantParse(t, c.s, c.want, true)
	}
}

// P2.3 of Parse: texts that are no number, or none that is right.
func TestWrongTexts(t *testing.T) {
	for _, s := range []string{
		"", "-", "+", "i", "-i", "+i", "--1", "-+1", "+1", "+1i", "+1+1i",
		"3-", "3+i", "3-i", "3+2", "3-2", "3--2i", "3+-2i", "3-+2i", "3++2i", "-3+", "-3+i",
		"1i2", "1ii", "1i+1", "1i+1i", "2i-", "1+2i3", "1+2ii", "1+2i+3i", "1+2-3i",
		" 1", "1 ", "1 +2i", "1+ 2i", "1+2 i", "1+2i ", "- 1", "1\n", "1\x00", "\x001", "1_0", "1,0",
		"1.0", "1.", ".5", "0x1", "1e3", "0b1", "1I", "1+2I", "1j", "Inf", "NaN", "(1+2i)", "٣", "１", "−1", "1\xff", "a", "/", ":", "1/", "1:", "/1", ":1",
		"1048577", "-1048577", "1048577i", "-1048577i", "1+1048577i", "1-1048577i", "1048577+1i", "-1048577-1i", "10485760", "01048577",
		"18446744073709551616", "18446744073709551617", "-18446744073709551617", "1+18446744073709551617i", "4294967297", "99999999999999999999999",
		strings.Repeat("9", 100000), "1" + strings.Repeat("0", 100000), "1" + strings.Repeat("0", 64) + "i", strings.Repeat("-", 100000),
	} {
		wantParse(t, s, 0, false)
	}
}

var pattern = regexp.MustCompile(`^(-?)([0-9]+)(|(i)|([+-])([0-9]+)i)$`)

// partOf tells a part by its sign and digits, and whether it is within the bounds.
func partOf(sign, digits string) (float64, bool) {
	n, _ := new(big.Int).SetString("0"+digits, 10)
	if sign == "-" {
		n.Neg(n)
	}
	if n.CmpAbs(big.NewInt(most)) > 0 {
		return 0, false
	}
	return float64(n.Int64()), true
}

// parseOf says by a pattern and big numbers what Parse has to answer.
func parseOf(s string) (complex128, bool) {
	l := pattern.FindStringSubmatch(s)
	if l == nil {
		return 0, false
	}
	first, ok := partOf(l[1], l[2])
	second, also := partOf(l[5], l[6])
	if !ok || !also {
		return 0, false
	}
	if l[4] != "" {
		return complex(0, first), true
	}
	return complex(first, second), true
}

// P2.3: of all short texts of the bytes that matter, and of random longer ones near a number's form.
func TestParseAgainstModel(t *testing.T) {
	const letters = "-+i019 "
	var all func(s string, left int)
	all = func(s string, left int) {
		want, ok := parseOf(s)
		wantParse(t, s, want, ok)
		if left > 0 {
			for _, r := range letters {
				all(s+string(r), left-1)
			}
		}
	}
	all("", 6)
	x := rand.New(rand.NewSource(2))
	pieces := []string{"-", "+", "i", "0", "00", "1", "9", "1048576", "1048577", "1048575", "7", "2i", "-3", "+4i", "a"}
	for range 100000 {
		var s string
		for range x.Intn(7) {
			s += pieces[x.Intn(len(pieces))]
		}
		want, ok := parseOf(s)
		wantParse(t, s, want, ok)
	}
}

// P2.4: of all small numbers, the edges beside each other, and random ones.
func TestParseOfText(t *testing.T) {
	check := func(first, second int64) {
		t.Helper()
		c := whole(first, second)
		wantParse(t, num.Text(c), c, true)
	}
	for first := int64(-120); first <= 120; first++ {
		for second := int64(-120); second <= 120; second++ {
			check(first, second)
		}
	}
	for _, first := range rightParts {
		for _, second := range rightParts {
			check(first, second)
		}
	}
	x := rand.New(rand.NewSource(3))
	for range 100000 {
		check(x.Int63n(2*most+1)-most, x.Int63n(2*most+1)-most)
	}
}

// R1 and P2.3: any text ends, and what is a number is written back as one.
func FuzzParse(f *testing.F) {
	for _, s := range []string{"", "-0", "007", "-1048576+1048576i", "1048577", "3-04i", "1+\xffi"} {
		f.Add(s)
	}
	f.Fuzz(func(t *testing.T, s string) {
		want, ok := parseOf(s)
		wantParse(t, s, want, ok)
		if ok {
			wantParse(t, num.Text(want), want, true)
		}
	})
}

// R1 and P2.1: any op and numbers end; a refusal stands beside 0, and else the answer is right and has no -0.
func FuzzOps(f *testing.F) {
	f.Add("add", 1.0, 2.0, 3.0, -4.0)
	f.Add("mul", float64(most), float64(most), float64(most), float64(-most))
	f.Add("neg", minusZero, math.NaN(), math.Inf(1), 0.5)
	f.Fuzz(func(t *testing.T, op string, first, second, other, last float64) {
		a, b := complex(first, second), complex(other, last)
		two, why := num.Two(op, a, b)
		one, whyOne := num.One(op, a)
		for _, x := range []struct {
			c   complex128
			why api.Errno
		}{{two, why}, {one, whyOne}} {
			if !num.Right(x.c) || !same(x.c, x.c+0) || x.why != api.OK && !same(x.c, 0) {
				t.Errorf("%q of %v and %v: %v, %v", op, a, b, x.c, x.why)
			}
		}
		if num.Less(a, b) && num.Less(b, a) {
			t.Errorf("%v and %v are each less", a, b)
		}
		if n, ok := num.Index(a); ok && complex(float64(n), 0) != a {
			t.Errorf("Index(%v): %d", a, n)
		}
	})
}
