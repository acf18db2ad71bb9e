package capture_test

import (
	"math/rand"
	"strings"
	"testing"

	"hawser/api"
	"hawser/capture"
	"hawser/parse"
	"hawser/tree"
)

// larger are the expressions whose parts are of l, with few names.
func larger(l []api.Expr) (out []api.Expr) {
	for _, a := range l {
		for _, params := range [][]api.Param{nil, {{Name: "x"}}, {{Name: "x"}, {Name: "y"}}} {
			out = append(out, api.Expr{Kind: api.Lambda, Params: params, Kids: []api.Expr{a}})
		}
		for _, b := range l {
			out = append(out, nodeOf(api.Op, "add", a, b), nodeOf(api.Let, "x", a, b), nodeOf(api.Let, "y", a, b))
			out = append(out, matchOf(a, nil, b), matchOf(a, []string{"x"}, b), matchOf(a, []string{"y", "y"}, b))
			two := matchOf(nodeOf(api.Var, "z"), []string{"x"}, a)
			two.Arms = append(two.Arms, api.Arm{Case: "B", Vars: []string{"y"}, Body: b})
			out = append(out, two)
		}
	}
	return out
}

// P11.1 and P11.2: all expressions of few names that are three deep at most.
func TestAllShort(t *testing.T) {
	least := []api.Expr{nodeOf(api.Number, ""), nodeOf(api.Var, "x"), nodeOf(api.Var, "y"), nodeOf(api.Var, "n.x")}
	less := append(larger(least), least...)
	for _, e := range append(larger(less), less...) {
		wantAsByModel(t, e)
	}
}

// chance makes sources by chance.
type chance struct{ *rand.Rand }

func (c chance) of(l ...string) string { return l[c.Intn(len(l))] }

// row is from least to most of what f makes, parted.
func (c chance) row(least, most int, f func() string) string {
	var s strings.Builder
	for range least + c.Intn(most-least+1) {
		s.WriteString(" " + f())
	}
	return s.String()
}

func (c chance) name() string { return c.of("x", "x", "y", "z", "xx", "_") }

func (c chance) param() string { return "(" + c.name() + " num)" }

func (c chance) expr(deep int) string {
	next := func() string { return c.expr(deep - 1 - c.Intn(2)) }
	arm := func() string { return "((" + c.of("A", "n.B") + c.row(0, 4, c.name) + ") " + next() + ")" }
	if deep <= 0 {
		return c.of("1", `"x"`, "n.x", "x.y", c.name(), c.name(), c.name(), "(f)", "(C)", "(array num)")
	}
	switch c.Intn(9) {
	case 0, 1:
		return "(let " + c.name() + " " + next() + " " + next() + ")"
	case 2:
		return "(if" + c.row(3, 3, next) + ")"
	case 3:
		return "(" + c.of("add", "neg", "cut") + c.row(0, 3, next) + ")"
	case 4:
		return "(array T" + c.row(0, 4, next) + ")"
	case 5:
		return "(match " + next() + c.row(1, 4, arm) + ")"
	case 6:
		return "(fn (" + c.row(0, 3, c.param) + ") num " + next() + ")"
	case 7:
		return "(call" + c.row(1, 4, next) + ")"
	}
	return "(" + c.of("f", "n.f", "x", "C", "n.C") + c.row(0, 3, next) + ")"
}

// P11.1 and P11.2: expressions by chance.
func TestByChance(t *testing.T) {
	c := chance{rand.New(rand.NewSource(1))}
	freeSizes, localSizes := map[int]int{}, map[int]int{}
	for k := range 20000 {
		e := read(t, c.expr(k%7))
		wantAsByModel(t, e)
		freeSizes[len(capture.Free(e))]++
		localSizes[min(capture.Locals(e), 5)]++
	}
	for n := range 6 {
		if freeSizes[n] < 100 || localSizes[n] < 100 {
			t.Errorf("too few expressions of which %d are told: %d, %d", n, freeSizes[n], localSizes[n])
		}
	}
}

func FuzzCapture(f *testing.F) {
	c := chance{rand.New(rand.NewSource(2))}
	for k := range 100 {
		f.Add(c.expr(k % 5))
	}
	f.Fuzz(func(t *testing.T, source string) {
		x, why, _ := tree.Parse(source)
		if why != api.OK {
			return
		}
		if e, why, _ := parse.Expr(x, "m"); why == api.OK {
			wantAsByModel(t, e)
		}
	})
}
