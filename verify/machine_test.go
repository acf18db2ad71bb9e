package verify_test

import (
	"fmt"
	"math/rand"
	"slices"
	"strconv"
	"strings"
	"testing"

	"hawser/api"
	"hawser/code"
	"hawser/object"
	"hawser/types"
	"hawser/verify"
)

// value is one with the type that it was made as.
type value struct {
	of   string
	kids []value // of an array, of a case; what a closure takes along
	one  int     // the number of a case, of a closure's function; -1: one of elsewhere
}

// machine runs the code of an object, and looks at all that an instruction must not meet. What comes from elsewhere, and which way Zero goes, is left to chance.
type machine struct {
	*rand.Rand
	o     object.Object
	fuel  int
	stuck string
	begun map[int]int // by operation
}

func (m *machine) fail(format string, args ...any) {
	if m.stuck == "" {
		m.stuck = fmt.Sprintf(format, args...)
	}
	m.fuel = 0
}

func (m *machine) casesOf(t string) []api.Case {
	for _, s := range m.o.Symbols {
		if s.Item.Kind == api.Type && nameOf(s) == t {
			return s.Item.Cases
		}
	}
	return nil
}

// made is some value of a type.
func (m *machine) made(t string, deep int) value {
	v := value{of: t, one: -1}
	if elem, ok := types.Elem(t); ok {
		for range m.Intn(3) * min(deep, 1) {
			v.kids = append(v.kids, m.made(elem, deep-1))
		}
	}
	if cases := m.casesOf(t); len(cases) > 0 {
		v.one = m.Intn(len(cases))
		if deep <= 0 {
			v.one = 0
		}
		for _, f := range cases[v.one].Fields {
			v.kids = append(v.kids, m.made(f, deep-1))
		}
	}
	return v
}

// frame is a call that is open.
type frame struct {
	*machine
	fun    int
	stack  []value
	locals []*value
}

// call runs a function on these, and gives its result.
func (m *machine) call(n int, args []value, deep int) value {
	f := m.o.Funs[n]
	if deep > 40 {
		return m.made(f.Result, 2)
	}
	c := frame{machine: m, fun: n, locals: make([]*value, f.Locals)}
	if len(args) != len(f.Params) {
		m.fail("%d arguments for %q", len(args), f.Params)
		return value{}
	}
	for k := range args {
		if args[k].of != f.Params[k] {
			m.fail("an argument %s for %s", args[k].of, f.Params[k])
		}
		c.locals[k] = &args[k]
	}
	list, _, _ := code.Decode(f.Code)
	for at := 0; m.fuel > 0; m.fuel-- {
		k := slices.IndexFunc(list, func(i code.Inst) bool { return i.At == at })
		if k < 0 {
			m.fail("no instruction stands at %d", at)
			break
		}
		m.begun[list[k].Op]++
		if list[k].Op == code.Ret {
			v := c.pop(f.Result)
			if len(c.stack) > 0 {
				m.fail("more than one value is left")
			}
			return v
		}
		at = len(f.Code)
		if k+1 < len(list) {
			at = list[k+1].At
		}
		at = c.step(list[k], at, deep)
		if len(c.stack) > api.MaxStack {
			m.fail("%d values on the stack", len(c.stack))
		}
	}
	return m.made(f.Result, 2) // for want of fuel
}

func (c *frame) push(v value) { c.stack = append(c.stack, v) }

func (c *frame) any() value {
	top := len(c.stack) - 1
	if top < 0 {
		c.fail("nothing to pop")
		return value{}
	}
	v := c.stack[top]
	c.stack = c.stack[:top]
	return v
}

func (c *frame) pop(t string) value {
	v := c.any()
	if v.of != t {
		c.fail("%q for %q", v.of, t)
	}
	return v
}

func (c *frame) popAll(l []string) []value {
	out := make([]value, len(l))
	for k := len(l) - 1; k >= 0; k-- {
		out[k] = c.pop(l[k])
	}
	return out
}

func (c *frame) symbol(i code.Inst) object.Symbol { return symbolOf(c.o, c.fun, i) }

// step does one instruction, and tells where it goes.
func (c *frame) step(i code.Inst, next, deep int) int {
	switch i.Op {
	case code.Push:
		c.push(value{of: "num"})
	case code.Literal:
		c.push(value{of: "bytes"})
	case code.Load:
		if i.A >= len(c.locals) || c.locals[i.A] == nil {
			c.fail("local %d is not there", i.A)
			break
		}
		c.push(*c.locals[i.A])
	case code.Store:
		v := c.any()
		if i.A >= len(c.locals) {
			c.fail("local %d is none", i.A)
			break
		}
		c.locals[i.A] = &v
	case code.Jump:
		return i.To[0]
	case code.Zero:
		c.pop("num")
		if c.Intn(2) == 0 {
			return i.To[0]
		}
	case code.Do:
		c.do(i.A)
	case code.Array:
		elem := c.o.Texts[i.B]
		c.push(value{of: "[" + elem + "]", kids: c.popAll(slices.Repeat([]string{elem}, i.A))})
	case code.Build:
		s := c.symbol(i)
		c.push(value{of: nameOf(s), one: i.A, kids: c.popAll(s.Item.Cases[i.A].Fields)})
	case code.Switch:
		v := c.pop(nameOf(c.symbol(i)))
		if v.one < 0 || v.one >= len(i.To) || len(v.kids) != len(c.symbol(i).Item.Cases[v.one].Fields) {
			c.fail("case %d with %d fields", v.one, len(v.kids))
			break
		}
		c.stack = append(c.stack, v.kids...)
		return i.To[v.one]
	case code.Call, code.Close:
		c.function(i, deep)
	case code.Global:
		if c.symbol(i).Item.Kind != api.Const {
			c.fail("no constant")
		}
		c.push(c.made(c.symbol(i).Item.Type, 2))
	case code.Apply:
		c.apply(i.A, deep)
	}
	return next
}

func (c *frame) do(op int) {
	if op >= len(doNames) {
		c.fail("no operation %d", op)
		return
	}
	var on []string
	var values []value
	for range kidsOf(doNames[op]) {
		v := c.any()
		on, values = append([]string{v.of}, on...), append([]value{v}, values...)
	}
	made, ok := typeOfOp(doNames[op], on)
	if !ok {
		c.fail("%s of %q", doNames[op], on)
	}
	switch v := c.made(made, 2); {
	case doNames[op] == "cat" && made != "bytes":
		c.push(value{of: made, kids: slices.Concat(values[0].kids, values[1].kids)})
	case doNames[op] == "at" && len(values) > 0 && len(values[0].kids) > 0:
		c.push(values[0].kids[c.Intn(len(values[0].kids))])
	default:
		c.push(v)
	}
}

func (c *frame) function(i code.Inst, deep int) {
	s := c.symbol(i)
	if s.Item.Kind != api.Fun {
		c.fail("no function")
		return
	}
	along, params, result := takenBy(c.o, s)
	n := -1
	if s.Item.Name == "" {
		n, _ = strconv.Atoi(s.Item.Type)
	} else if s.Module == c.o.Module {
		n = slices.IndexFunc(c.o.Funs, func(f object.Fun) bool { return f.Name == s.Item.Name })
	}
	if i.Op == code.Close {
		c.push(value{of: types.Func(params, result), one: n, kids: c.popAll(along)})
		return
	}
	args := c.popAll(params)
	if n < 0 {
		c.push(c.made(result, 2))
		return
	}
	c.push(c.call(n, args, deep+1))
}

func (c *frame) apply(a, deep int) {
	var args []value
	for range a {
		args = append([]value{c.any()}, args...)
	}
	f := c.any()
	params, result, ok := types.Parts(f.of)
	if !ok || len(params) != a {
		c.fail("%s with %d arguments", f.of, a)
		return
	}
	for k := range args {
		if args[k].of != params[k] {
			c.fail("an argument %s for %s", args[k].of, params[k])
		}
	}
	if f.one < 0 {
		c.push(c.made(result, 2))
		return
	}
	c.push(c.call(f.one, slices.Concat(f.kids, args), deep+1))
}

// wantRuns: what is let by meets nothing that it must not.
func wantRuns(t *testing.T, o object.Object, seed int64, times int, begun map[int]int) {
	t.Helper()
	for k := range times {
		m := &machine{Rand: rand.New(rand.NewSource(seed + int64(k))), o: o, fuel: 1500, begun: begun}
		for n, f := range o.Funs {
			var args []value
			for _, p := range f.Params {
				args = append(args, m.made(p, 2))
			}
			if v := m.call(n, args, 0); m.stuck == "" && v.of != f.Result {
				m.fail("%s for %s", v.of, f.Result)
			}
			if m.stuck != "" {
				t.Fatalf("function %d is let by and met: %s: %s", n, m.stuck, toldCode(o.Funs[n].Code))
			}
			m.fuel = 1500
		}
	}
}

// P15.3 of ordinary code.
func TestMeetsNothing(t *testing.T) {
	begun := map[int]int{}
	for k, f := range ordinaries() {
		wantRuns(t, scene(f), int64(k), 5, begun)
	}
	for op := code.Push; op <= code.Ret; op++ {
		if begun[op] == 0 {
			t.Errorf("operation %d was never begun", op)
		}
	}
}

// The machine does look: what is not let by gets stuck in it, where it comes to be run.
func TestMachineLooks(t *testing.T) {
	for _, text := range []string{
		"lit; ret", "ret", "push; push; ret", "load 3; ret", "lit; load 9; ret", "push; store 9; push; ret", "push; jump 99", "lit; zero 0; push; ret", "push; do add; ret", "lit; push; do add; ret", "push; do 13; ret", "lit; array 1 num; ret",
		"push; build 1 m.T; ret", "push; switch m.T 0 0; push; ret", "lit; call m.g; ret", "call m.c; ret", "global m.k; ret", "push; close 1 #2; ret", "push; apply 0; ret", "load 2; push; apply 1; ret", "close 0 n.h; lit; apply 1; ret", times(49, "push") + times(48, "do add") + "ret", "push",
	} {
		o := scene(of(text))
		if why, _ := verify.Fun(o, 1); why == api.OK {
			t.Errorf("%s is let by", text)
		}
		m := &machine{Rand: rand.New(rand.NewSource(1)), o: o, fuel: 1500, begun: map[int]int{}}
		m.call(1, []value{m.made("num", 1), m.made("m.T", 1), m.made("()num", 1)}, 0)
		if m.stuck == "" {
			t.Errorf("%s runs", strings.TrimSpace(text))
		}
	}
}
