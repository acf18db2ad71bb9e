package mean_test

import (
	"fmt"
	"math"
	"testing"

	"hawser/api"
	"hawser/mean"
)

// P12.3: just enough fuel, one less, none, and less than none.
func TestFuel(t *testing.T) {
	for _, c := range []struct {
		definitions string
		need        int
	}{
		{"(fun f () num 1)", 1}, {"(fun f () num (add 1 2))", 3}, {"(const a num (add 1 2)) (fun f () num (g a)) (fun g ((x num)) num x)", 6}, {"(fun f () num (if 0 1 2))", 3}, {"(fun f () num (call (fn ((x num)) num x) 1))", 4},
	} {
		p := inModule(t, c.definitions)
		p.fuel = c.need
		want := p.run()
		for _, p.fuel = range []int{c.need + 1, plenty, 1 << 22, 1<<22 + 1, math.MaxInt} {
			if got := p.run(); got != want {
				t.Errorf("%s, fuel %d: %s, want %s", c.definitions, p.fuel, got, want)
			}
		}
		for p.fuel = range c.need {
			p.wantEnd(t, api.ErrFuel, p.fuel)
		}
		for _, p.fuel = range []int{-1, -1 << 40, math.MinInt} {
			p.wantEnd(t, api.ErrFuel, 0)
		}
	}
}

// P12.3: fuel above 2^22 is 2^22.
func TestMostFuel(t *testing.T) {
	t.Parallel()
	p := inModule(t, "(fun f () num (g 21)) (fun g ((n num)) num (if n (let x (g (sub n 1)) (g (sub n 1))) 0))")
	for _, p.fuel = range []int{1 << 22, 1<<22 + 1, math.MaxInt} {
		p.wantEnd(t, api.ErrFuel, 1<<22)
	}
	p.fuel = 1<<22 - 1
	p.wantEnd(t, api.ErrFuel, 1<<22-1)
}

// P12.3: 1000 calls open, and one more, in each way of calling.
func TestDepth(t *testing.T) {
	for source, most := range map[string]int{
		"(fun f ((n num)) num (if n (f (sub n 1)) 7))":                                                                                                            999,
		"(fun f ((n num)) num (if n (add (f (sub n 1)) 0) 7))":                                                                                                    999,
		"(fun f ((n num)) num (if n (call f (sub n 1)) 7))":                                                                                                       999,
		"(fun f ((n num)) num (g n)) (fun g ((n num)) num (if n (g (sub n 1)) 7))":                                                                                998,
		"(fun f ((n num)) num (if n (call (fn ((x num)) num (f (sub x 1))) n) 7))":                                                                                499,
		"(fun f ((n num)) num (let x (g n) (g n))) (fun g ((n num)) num (if n (g (sub n 1)) 7))":                                                                  998,
		"(fun f ((n num)) num (call (h n))) (fun h ((n num)) (fn () num) (if n (let p (h (sub n 1)) (fn () num (call p))) (fn () num 7)))":                        998,
		"(type T (S T) (Z)) (fun f ((n num)) num (d (u n))) (fun u ((n num)) T (if n (S (u (sub n 1))) (Z))) (fun d ((t T)) num (match t ((S x) (d x)) ((Z) 7)))": 998,
	} {
		for n, why := range map[int]api.Errno{0: api.OK, most: api.OK, most + 1: api.ErrDepth, most + 7: api.ErrDepth} {
			p := inModule(t, source, num(complex(float64(n), 0)))
			a, _ := mean.Run(p.l, p.entry, p.args, plenty)
			if a.Why != why || why == api.OK && told(a.Value) != told(num(7)) {
				t.Errorf("%s of %d: %v %s", source, n, a.Why, told(a.Value))
			}
		}
	}
}

// P12.3: a const is no call.
func TestDepthOfConst(t *testing.T) {
	const rest = " (fun f () num c) (fun g ((n num)) num (if n (g (sub n 1)) 7))"
	inModule(t, "(const c num (g 999))"+rest).wantValue(t, num(7), 2+999*6+3+1)
	inModule(t, "(const c num (g 1000))"+rest).wantEnd(t, api.ErrDepth, 2+1000*6)
}

// P12.3: arguments are begun ahead of the call that is one too many.
func TestDepthBehindArguments(t *testing.T) {
	inModule(t, "(fun f ((n num)) num (f (add n 1)))", num(0)).wantEnd(t, api.ErrDepth, 4*1000)
	inModule(t, `(fun f ((n num)) num (if (lt n 999) (f (add n 1)) (f (at "" 0))))`, num(0)).wantEnd(t, api.ErrIndex, 999*8+8)
	p := inModule(t, "(fun f () num (f))")
	p.fuel = 1000
	p.wantEnd(t, api.ErrDepth, 1000)
}

// P12.3: when a const is read before it has a value.
func TestInit(t *testing.T) {
	for definitions, want := range map[string]string{
		"(const a num (g)) (const b num 1) (fun g () num b) (fun f () num a)":                                  "46 2",
		"(const a num (g)) (fun g () num a) (fun f () num a)":                                                  "46 2",
		"(const a (fn () num) g) (const b num (call a)) (fun g () num b) (fun f () num 1)":                     "46 4",
		"(const a (fn () num) g) (const b num 5) (fun g () num b) (fun f () num (call a))":                     "0 5",
		"(const a (fn () num) (fn () num (g))) (const b num 6) (fun g () num b) (fun f () num (call a))":       "0 6",
		"(const a num (if 1 2 (g))) (const b num 1) (fun g () num b) (fun f () num a)":                         "0 5",
		"(const a num (h 3)) (const b num 1) (fun g () num b) (fun h ((b num)) num b) (fun f () num a)":        "0 5",
		"(const a (array num) (array num)) (const b bytes \"\") (fun f () num (add (len a) (len b)))":          "0 7",
		"(const a num 1) (const b num (add a (g))) (const c num 7) (fun g () num a) (fun f () num (add b c))":  "0 9",
		"(const a num (let b 3 b)) (const b num (add a 1)) (fun f () num b)":                                   "0 7",
		"(const a num (at (array num) 0)) (const b num (g)) (const c num 1) (fun g () num c) (fun f () num 1)": "45 3",
		"(const a num 1) (const b num (add 1048576 a)) (const d num (at \"\" 0)) (fun f () num 1)":             "44 4",
		"(const a num (g)) (const b num 1) (fun g () num (add (at \"\" 0) b)) (fun f () num 1)":                "45 5",
		"(const a num (g)) (const b num 1) (fun g () num (add b (at \"\" 0))) (fun f () num 1)":                "46 3",
	} {
		p := inModule(t, definitions)
		a, begun := mean.Run(p.l, p.entry, nil, plenty)
		if got := fmt.Sprint(int(a.Why), begun); got != want {
			t.Errorf("%s: %s, want %s", definitions, got, want)
		}
	}
}

// P12.5: whatever ends a program, but for want of fuel, ends it the same with more; with less it ends for want.
func TestMoreFuel(t *testing.T) {
	for _, definitions := range []string{
		"(fun f ((n num)) num (if n (add 1 (f (sub n 1))) 0))",
		"(const a num (g)) (const b num 1) (fun g () num b) (fun f ((n num)) num a)",
		"(fun f ((n num)) num (if n (f (sub n 1)) (at \"\" 0)))",
		"(fun f ((n num)) num (f (mul 2 (add n 1))))",
		"(fun f ((n num)) (array (array num)) (g n (array (array num)))) (fun g ((n num) (l (array (array num)))) (array (array num)) (if n (g (sub n 1) (cat l (cat l (array (array num) (array num 1))))) l))",
		"(fun f ((n num)) num (call (fn ((p (fn (num) num))) num (call p n)) (fn ((x num)) num (f (add x 1)))))",
		"(type T (L) (N num T)) (const c T (g 5 (L))) (fun g ((n num) (t T)) T (if n (g (sub n 1) (N n t)) t)) (fun f ((n num)) T (N n c))",
	} {
		p := inModule(t, definitions, num(11))
		whole, need := mean.Run(p.l, p.entry, p.args, 1<<22)
		if whole.Why == api.ErrFuel {
			t.Fatal(definitions)
		}
		want := toldAnswer(whole, need)
		step := 1 + need/500
		for p.fuel = 0; p.fuel < need; p.fuel += step {
			p.wantEnd(t, api.ErrFuel, p.fuel)
		}
		p.fuel = need - 1
		p.wantEnd(t, api.ErrFuel, need-1)
		for _, p.fuel = range []int{need, need + 1, 2 * need, plenty} {
			if got := p.run(); got != want {
				t.Errorf("%s, fuel %d: %s, want %s", definitions, p.fuel, got, want)
			}
		}
	}
}
