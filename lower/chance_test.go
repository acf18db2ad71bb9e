package lower_test

import (
	"math/rand"
	"slices"
	"strings"
	"testing"

	"hawser/api"
	"hawser/parse"
)

// named is a name, with the source of its type.
type named struct{ name, of string }

// shape is a case or a function: what it takes and gives, as sources of types.
type shape struct {
	name   string
	takes  []string
	result string
}

// chance makes programs that are typed; what they do is left to it.
type chance struct {
	*rand.Rand
	shapes []shape
	more   int // how much deeper bodies are than they else would be
}

func (c *chance) of(l ...string) string { return l[c.Intn(len(l))] }

// sourceT has the types of all programs by chance, and long ones.
const sourceT = `(module t (export T U big many up)
	(type T (A) (B num bytes) (C T (array T))) (type U (F (fn (num) num)) (G (array U) bytes))
	(const big bytes (grow 10 "q")) (const many (array num) (widen 10 (array num 1)))
	(fun grow ((n num) (s bytes)) bytes (if n (grow (sub n 1) (cat s s)) s)) (fun widen ((n num) (s (array num))) (array num) (if n (widen (sub n 1) (cat s s)) s))
	(fun up ((n num)) num (add n 1)))`

func shapesOfT() []shape {
	return []shape{{"t.A", nil, "t.T"}, {"t.B", []string{"num", "bytes"}, "t.T"}, {"t.C", []string{"t.T", "(array t.T)"}, "t.T"}, {"t.F", []string{"(fn (num) num)"}, "t.U"}, {"t.G", []string{"(array t.U)", "bytes"}, "t.U"}, {"t.up", []string{"num"}, "num"}}
}

func varsOfT() []named {
	return []named{{"t.big", "bytes"}, {"t.many", "(array num)"}, {"t.up", "(fn (num) num)"}}
}

func (c *chance) someType(deep int) string {
	if deep > 0 && c.Intn(4) == 0 {
		if c.Intn(2) == 0 {
			return "(array " + c.someType(deep-1) + ")"
		}
		return "(fn (" + strings.Repeat(c.someType(deep-1)+" ", c.Intn(3)) + ") " + c.someType(deep-1) + ")"
	}
	return c.of("num", "num", "num", "bytes", "bytes", "(array num)", "t.T", "t.T", "t.U")
}

// expr is an expression of that type, where vars are known.
func (c *chance) expr(of string, vars []named, deep int) string {
	if deep <= 0 || c.Intn(7) == 0 {
		return c.leaf(of, vars)
	}
	switch c.Intn(9) {
	case 0:
		kind, name := c.someType(1), c.of("x", "y", "a", "b", "u", "g", "one")
		return "(let " + name + " " + c.expr(kind, vars, deep-1) + " " + c.expr(of, append(slices.Clip(vars), named{name, kind}), deep-1) + ")"
	case 1:
		return "(if " + c.expr("num", vars, deep-1) + " " + c.expr(of, vars, deep-1) + " " + c.expr(of, vars, deep-1) + ")"
	case 2:
		return c.match(of, vars, deep)
	case 3:
		return c.apply(of, vars, deep)
	case 4:
		return "(at (array " + of + " " + c.expr(of, vars, deep-1) + " " + c.expr(of, vars, deep-1) + ") " + c.of("0", "1", "0", "1", c.expr("num", vars, deep-1)) + ")"
	}
	return c.ofType(of, vars, deep)
}

// leaf is a name of that type, if there is one, else what makes one.
func (c *chance) leaf(of string, vars []named) string {
	var names []string
	for k, one := range vars {
		hidden := slices.ContainsFunc(vars[k+1:], func(other named) bool { return other.name == one.name })
		if one.of == of && !hidden {
			names = append(names, one.name)
		}
	}
	if len(names) > 0 && c.Intn(4) > 0 {
		return c.of(names...)
	}
	switch of {
	case "num":
		return c.of("1", "2", "0", "-1", "3i", "1-1i", "2", "0", "1048576")
	case "bytes":
		return c.of(`""`, `"ab"`, `"hawser"`)
	}
	return c.ofType(of, vars, 0)
}

// ofType is an expression that is made for that type alone.
func (c *chance) ofType(of string, vars []named, deep int) string {
	if strings.HasPrefix(of, "(fn ") {
		return c.lambda(of, vars, deep)
	}
	ways := c.opsOf(of, deep)
	for _, one := range c.shapes {
		if one.result == of && (deep > 0 || len(one.takes) == 0) {
			ways = append(ways, append([]string{one.name}, one.takes...))
		}
	}
	if len(ways) == 0 {
		return map[string]string{"t.U": `(t.G (array t.U) "")`, "V": "(Two 1 2)"}[of]
	}
	one := ways[c.Intn(len(ways))]
	made := "(" + one[0]
	for _, kid := range one[1:] {
		made += " " + c.expr(kid, vars, deep-1)
	}
	return made + ")"
}

// opsOf are what operations and lists of that type begin with, each with the types of its Kids.
func (c *chance) opsOf(of string, deep int) (ways [][]string) {
	way := func(l ...string) { ways = append(ways, l) }
	switch same := c.of("num", "bytes"); {
	case of == "num":
		way(c.of("add", "sub", "mul", "lt"), "num", "num")
		way(c.of("neg", "conj", "re", "im"), "num")
		way("len", c.of("bytes", "(array num)", "(array t.T)"))
		way("at", "bytes", "num")
		way("eq", same, same)
	case of == "bytes":
		way("cat", "bytes", "bytes")
		way("cut", "bytes", "num", "num")
	case strings.HasPrefix(of, "(array "):
		elem := pieces(of)[1]
		way(append([]string{"array " + elem}, slices.Repeat([]string{elem}, c.Intn(3))...)...)
		if deep > 0 {
			way("cat", of, of)
		}
	}
	return ways
}

// pieces are what stands between the outer brackets of a source.
func pieces(source string) (l []string) {
	deep, from := 0, 1
	for k, sign := range source {
		switch {
		case sign == '(':
			deep++
		case sign == ')':
			deep--
		}
		if deep == 0 || deep == 1 && sign == ' ' {
			l, from = append(l, source[from:k]), k+1
		}
	}
	return slices.DeleteFunc(l, func(s string) bool { return s == "" })
}

// params are those of some types, with the names that are seen behind them.
func (c *chance) params(takes []string, vars []named) (string, []named) {
	s := ""
	vars = slices.Clip(vars)
	for _, of := range takes {
		name := c.of("x", "y", "a", "b", "z", "one", "g")
		s += "(" + name + " " + of + ")"
		vars = append(vars, named{name, of})
	}
	return s, vars
}

// lambda is a function of that type.
func (c *chance) lambda(of string, vars []named, deep int) string {
	result := pieces(of)[2]
	params, inner := c.params(pieces(pieces(of)[1]), vars)
	return "(fn (" + params + ") " + result + " " + c.expr(result, inner, deep-1) + ")"
}

// match is one over a type of the shapes, in any order.
func (c *chance) match(of string, vars []named, deep int) string {
	whole := c.of("t.T", "t.T", "t.U")
	var arms []shape
	for _, one := range c.shapes {
		upper := one.name[strings.IndexByte(one.name, '.')+1]
		if one.result == whole && 'A' <= upper && upper <= 'Z' {
			arms = append(arms, one)
		}
	}
	c.Shuffle(len(arms), func(a, b int) { arms[a], arms[b] = arms[b], arms[a] })
	s := "(match " + c.expr(whole, vars, deep-1)
	for _, arm := range arms {
		inner, head := slices.Clip(vars), arm.name
		for _, field := range arm.takes {
			name := c.of("x", "y", "a", "u", "one")
			inner, head = append(inner, named{name, field}), head+" "+name
		}
		s += " ((" + head + ") " + c.expr(of, inner, deep-1) + ")"
	}
	return s + ")"
}

// apply calls a function that gives that type.
func (c *chance) apply(of string, vars []named, deep int) string {
	var params []string
	for range c.Intn(3) {
		params = append(params, c.someType(1))
	}
	s := "(call " + c.expr("(fn ("+strings.Join(params, " ")+") "+of+")", vars, deep-1)
	for _, param := range params {
		s += " " + c.expr(param, vars, deep-1)
	}
	return s + ")"
}

// definitions are consts and functions of some names, which see one another as the language lets them; and their names, as the module's own.
func (c *chance) definitions(consts, funs []string, vars []named) (string, []named, []shape) {
	var own []shape
	for _, name := range funs {
		one := shape{name: name, result: c.someType(1)}
		if name == "f" && c.Intn(4) == 0 { // so that some answers are too great
			one.result = c.of("(array num)", "(array (array num))")
		}
		for range c.Intn(3) {
			one.takes = append(one.takes, c.someType(1))
		}
		if name == "f" { // what is handed in is no function
			one.takes = []string{"num", "bytes", "(array num)", "t.T"}[c.Intn(4):]
		}
		own = append(own, one)
	}
	ahead := c.shapes
	if c.Intn(3) == 0 { // all see all: so most of them call themselves for good
		c.shapes = slices.Concat(ahead, own)
	}
	s := ""
	for _, name := range consts {
		of := c.someType(1)
		if c.Intn(2) == 0 {
			c.shapes = slices.Concat(ahead, own)
		}
		s += "(const " + name + " " + of + " " + c.expr(of, vars, c.Intn(4)+c.more) + ")"
		vars = append(slices.Clip(vars), named{name, of})
		c.shapes = ahead
	}
	for k, one := range own {
		c.shapes = slices.Concat(ahead, own[:k])
		if c.Intn(4) == 0 {
			c.shapes = slices.Concat(ahead, own)
		}
		params, inner := c.params(one.takes, vars)
		s += "(fun " + one.name + " (" + params + ") " + one.result + " " + c.expr(one.result, inner, c.Intn(5)+c.more) + ")"
	}
	c.shapes = ahead
	return s, vars, own
}

// sources are three modules that import one another.
func (c *chance) sources() []string {
	c.shapes = shapesOfT()
	imports := "(import t T U big many up)"
	consts, funs := strings.Fields("one two three")[c.Intn(3):], strings.Fields("g h i")[c.Intn(3):]
	s, vars, own := c.definitions(consts, funs, varsOfT())
	exports := strings.Join(append(slices.Clone(consts), funs...), " ")
	n := "(module n " + imports + " (export " + exports + ") " + s + ")"
	vars = slices.Clone(vars)
	for k, one := range vars {
		if !strings.Contains(one.name, ".") {
			vars[k].name = "n." + one.name
		}
	}
	for _, one := range own {
		one.name = "n." + one.name
		c.shapes = append(c.shapes, one)
		vars = append(vars, named{one.name, "(fn (" + strings.Join(one.takes, " ") + ") " + one.result + ")"})
	}
	s, _, _ = c.definitions(strings.Fields("one four")[c.Intn(2):], strings.Fields("g e f"), vars)
	return []string{sourceT, n, "(module m " + imports + " (import n " + exports + ") (export f g) " + s + ")"}
}

// given is a value of one of the types that f takes.
func (c *chance) given(of string, deep int) api.Value {
	switch of {
	case "num":
		return num([]complex128{0, 1, 2, -1, 3i, 1048576}[c.Intn(6)])
	case "bytes":
		return text(c.of("", "ab", "hawser"))
	case "(array num)":
		v := array()
		for range c.Intn(3) {
			v.Kids = append(v.Kids, c.given("num", 0))
		}
		return v
	}
	switch c.Intn(1 + 2*min(deep, 1)) {
	case 1:
		return variant(1, c.given("num", 0), c.given("bytes", 0))
	case 2:
		return variant(2, c.given("t.T", deep-1), array(c.given("t.T", deep-1), c.given("t.T", deep-1)))
	}
	return variant(0)
}

// program calls f of the last module.
func (c *chance) program() (program, bool) {
	p := program{entry: "m.f"}
	for _, source := range c.sources() {
		m, why, _ := parse.Module(source)
		if why != api.OK {
			return program{}, false
		}
		p.l = append(p.l, m)
	}
	f := p.l[2].Funs[slices.IndexFunc(p.l[2].Funs, func(def api.FunDef) bool { return def.Name == "f" })]
	for k := range f.Params {
		takes := []string{"num", "bytes", "(array num)", "t.T"}
		p.args = append(p.args, c.given(takes[len(takes)-len(f.Params)+k], 3))
	}
	return p, true
}

// P16.1 to P16.3, W1, W3: modules by chance are refused as sema.Module refuses them, or because they are too great, and mean as objects what they mean as sources.
func TestByChance(t *testing.T) {
	t.Parallel()
	seen, refused, ran, modest := map[api.Errno]int{}, map[api.Errno]int{}, 0, 0
	for k := range 500 {
		c := &chance{Rand: rand.New(rand.NewSource(int64(k)))}
		c.more = max(0, k%8-4)
		p, ok := c.program()
		if !ok {
			continue
		}
		whole := true
		for _, m := range p.l[1:] {
			why := wantLowered(t, m, ifacesOf(p.l))
			refused[why]++
			whole = whole && why == api.OK
			if isModest(m, ifacesOf(p.l)) {
				modest++
			}
		}
		if whole {
			a, _ := p.wantMeaning(t, 5000)
			seen[a.Why]++
			ran++
		}
	}
	for _, why := range []api.Errno{api.OK, api.ErrFuel, api.ErrHeap, api.ErrRange, api.ErrIndex, api.ErrInit} {
		if seen[why] < 4 {
			t.Errorf("too few runs are %v: %d", why, seen[why])
		}
	}
	if ran < 400 || modest < 300 || modest > 600 || refused[api.ErrMany] < 5 {
		t.Errorf("%d run, %d modules are modest, refused %v", ran, modest, refused)
	}
}

// FuzzModule: sources, with a zero between them, each lowered against what the others show.
func FuzzModule(f *testing.F) {
	for k := range 60 {
		c := &chance{Rand: rand.New(rand.NewSource(int64(k)))}
		f.Add(strings.Join(c.sources(), "\x00"))
	}
	for _, source := range ordinaries() {
		f.Add(source)
	}
	f.Fuzz(func(t *testing.T, sources string) {
		var l []api.Module
		for source := range strings.SplitSeq(sources, "\x00") {
			if m, why, _ := parse.Module(source); why == api.OK {
				l = append(l, m)
			}
		}
		for k, m := range l {
			rest := slices.Delete(slices.Clone(l), k, k+1)
			wantLowered(t, m, append(ifacesOf(rest), others()...))
		}
	})
}
