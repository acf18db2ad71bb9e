package lower_test

import (
	"fmt"
	"slices"
	"strconv"
	"strings"
	"testing"

	"hawser/api"
	"hawser/code"
	"hawser/iface"
	"hawser/lower"
	"hawser/mean"
	"hawser/object"
	"hawser/parse"
)

// place is a function's: the module, and its number there.
type place struct {
	module string
	n      int
}

// machine runs objects as chapters 15 and 21 say, and counts what that takes.
type machine struct {
	spent
	most, open int // instructions that may be begun; calls that are open
	objects    map[string]object.Object
	code       map[place][]code.Inst
	now        map[string]thing
}

// byMachine is what objects answer, each of which stands behind those that it imports.
func byMachine(l []object.Object, entry string, args []api.Value, most int) (a api.Answer, took spent) {
	m := machine{most: most, objects: map[string]object.Object{}, code: map[place][]code.Inst{}, now: map[string]thing{}}
	defer func() {
		took = m.spent
		if x := recover(); x != nil {
			a = api.Answer{Why: x.(ended).why}
		}
	}()
	for _, o := range l {
		m.objects[o.Module] = o
		for n, f := range o.Funs {
			m.code[place{o.Module, n}], _, _ = code.Decode(f.Code)
		}
	}
	for _, o := range l {
		for _, g := range o.Globals {
			m.now[o.Module+"."+g.Name] = m.call(place{o.Module, g.Fun}, nil)
		}
	}
	var given []thing
	for _, v := range args {
		given = append(given, thingOf(v))
	}
	module, name, _ := strings.Cut(entry, ".")
	v := m.call(m.named(module, api.Item{Name: name}), given)
	unless(v.count() <= api.MaxShown, api.ErrHeap)
	return api.Answer{Value: v.shown()}, m.spent
}

// named is the function that a symbol means.
func (m *machine) named(module string, item api.Item) place {
	n, err := strconv.Atoi(item.Type)
	if item.Name != "" || err != nil {
		n = slices.IndexFunc(m.objects[module].Funs, func(f object.Fun) bool { return f.Name == item.Name })
	}
	return place{module, n}
}

// frame is a call that is open.
type frame struct {
	*machine
	place
	stack  []thing
	locals []thing
}

func (m *machine) call(f place, args []thing) thing {
	unless(m.open <= 1000, api.ErrDepth) // a const's is open beside those of the model
	m.open++
	m.deepest = max(m.deepest, m.open)
	c := frame{machine: m, place: f, locals: make([]thing, m.objects[f.module].Funs[f.n].Locals)}
	copy(c.locals, args)
	list := m.code[f]
	for k := 0; ; k++ {
		unless(m.begun < m.most, api.ErrFuel)
		m.begun++
		if list[k].Op == code.Ret {
			m.open--
			return c.pop(1)[0]
		}
		if at, jumps := c.step(list[k]); jumps {
			k = slices.IndexFunc(list, func(i code.Inst) bool { return i.At == at }) - 1
		}
	}
}

func (c *frame) push(v thing) { c.stack = append(c.stack, v) }

func (c *frame) pop(many int) []thing {
	from := len(c.stack) - many
	l := slices.Clone(c.stack[from:])
	c.stack = c.stack[:from]
	return l
}

func (c *frame) symbol(i code.Inst) object.Symbol {
	ahead, _ := code.Takes(i.Op)
	o := c.objects[c.module]
	k := slices.IndexFunc(o.Relocs, func(r object.Reloc) bool { return r.Fun == c.n && r.At == i.At+ahead })
	return o.Symbols[o.Relocs[k].Sym]
}

// step does one instruction, and tells where it goes, if not to the next one.
func (c *frame) step(i code.Inst) (int, bool) {
	switch i.Op {
	case code.Push:
		c.push(thing{Value: num(i.N)})
	case code.Literal:
		c.heap += 1 + len(i.Text)/8
		c.push(thing{Value: text(i.Text)})
	case code.Load:
		c.push(c.locals[i.A])
	case code.Store:
		c.locals[i.A] = c.pop(1)[0]
	case code.Jump:
		return i.To[0], true
	case code.Zero:
		return i.To[0], c.pop(1)[0].N == 0
	case code.Do:
		c.do(strings.Fields("add sub mul neg conj re im eq lt cat len at cut")[i.A])
	case code.Array:
		c.heap += 1 + i.A
		c.push(thing{Value: array(), kids: c.pop(i.A)})
	case code.Build:
		fields := c.symbol(i).Item.Cases[i.A].Fields
		c.heap += 1 + len(fields)
		c.push(thing{Value: variant(i.A), kids: c.pop(len(fields))})
	case code.Switch:
		v := c.pop(1)[0]
		c.stack = append(c.stack, v.kids...)
		return i.To[v.Case], true
	case code.Global:
		v, ok := c.now[c.symbol(i).Module+"."+c.symbol(i).Item.Name]
		unless(ok, api.ErrInit)
		c.push(v)
	case code.Close:
		c.heap += 1 + i.A
		c.push(thing{Value: closure(), along: c.pop(i.A), fun: c.named(c.symbol(i).Module, c.symbol(i).Item)})
	case code.Call:
		f := c.named(c.symbol(i).Module, c.symbol(i).Item)
		c.push(c.call(f, c.pop(len(c.objects[f.module].Funs[f.n].Params))))
	case code.Apply:
		l := c.pop(i.A + 1)
		c.push(c.call(l[0].fun, slices.Concat(l[0].along, l[1:])))
	}
	return 0, false
}

func (c *frame) do(op string) {
	many := 2
	switch op {
	case "neg", "conj", "re", "im", "len":
		many = 1
	case "cut":
		many = 3
	}
	v := opByModel(op, c.pop(many))
	if op == "cat" || op == "cut" {
		c.heap += 1 + len(v.B)/8 + len(v.kids)
	}
	c.push(v)
}

// program is what is run: a function of one of its modules, each of which stands behind those that it imports.
type program struct {
	l     []api.Module
	entry string
	args  []api.Value
}

// inModule is a program of one module, m, of some definitions, of which f is called.
func inModule(t testing.TB, definitions string, args ...api.Value) program {
	t.Helper()
	return program{readAll(t, "(module m (export f) "+definitions+")"), "m.f", args}
}

func ifacesOf(l []api.Module) []api.Iface {
	var out []api.Iface
	for _, m := range l {
		i, _ := iface.Of(m)
		out = append(out, i)
	}
	return out
}

// told tells all of a value, and of an answer.
func told(a api.Answer) string {
	return fmt.Sprintf("%d %+v", int(a.Why), a.Value)
}

func (p program) told() string {
	s := fmt.Sprintf("%s %+v", p.entry, p.args)
	for _, m := range p.l {
		s += "\n" + parse.Print(m)
	}
	return s
}

// wantMeaning: the objects of the modules answer what their sources mean, and take no more for it than they may.
func (p program) wantMeaning(t testing.TB, fuel int) (api.Answer, spent) {
	t.Helper()
	want, may := byModel(p.l, p.entry, p.args, fuel)
	if meant, begun := mean.Run(p.l, p.entry, p.args, fuel); told(meant) != told(want) || 32*begun != may.begun {
		t.Fatalf("%s: the model answers %.300s behind %d, want %.300s behind %d", p.told(), told(want), may.begun/32, told(meant), begun)
	}
	var objects []object.Object
	for _, m := range p.l {
		o, why := lower.Module(m, ifacesOf(p.l))
		if why != api.OK {
			t.Fatalf("%s: %s is refused: %v", p.told(), m.Name, why)
		}
		objects = append(objects, o)
	}
	got, took := byMachine(objects, p.entry, p.args, may.begun)
	if want.Why == api.ErrFuel || want.Why == api.ErrDepth { // code may come further, or not so far
		return want, took
	}
	if told(got) != told(want) {
		t.Fatalf("%s: %.300s, want %.300s", p.told(), told(got), told(want))
	}
	if took.heap > may.heap || took.deepest > may.deepest {
		t.Fatalf("%s: took %+v, may %+v", p.told(), took, may)
	}
	return want, took
}
