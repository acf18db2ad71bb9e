package verify_test

import (
	"slices"
	"strconv"
	"strings"

	"hawser/api"
	"hawser/code"
	"hawser/iface"
	"hawser/object"
	"hawser/scope"
	"hawser/sema"
	"hawser/types"
)

func kidsOf(op string) int {
	switch op {
	case "neg", "conj", "re", "im", "len":
		return 1
	case "cut":
		return 3
	}
	return 2
}

// typeOfOp asks sema for the type of an operation on locals of these types.
func typeOfOp(op string, on []string) (string, bool) {
	e := api.Expr{Kind: api.Op, Name: op}
	var locals []api.Param
	for k, t := range on {
		name := string(rune('a' + k))
		locals = append(locals, api.Param{Name: name, Type: t})
		e.Kids = append(e.Kids, api.Expr{Kind: api.Var, Name: name})
	}
	m := api.Module{Name: "m"}
	s, _, _ := scope.New(m, nil)
	made, why, _ := sema.Expr(s, locals, 0, m, e)
	return made, why == api.OK
}

// noType is what nothing on a stack is.
const noType = "no type"

// textState is a state as a text: each type on the stack with a space ahead of it; the locals likewise, - for one that is unset.
type textState struct {
	at            int
	stack, locals string
}

// deal is what an instruction asks for and gives, in the order in which it is refused.
type deal struct {
	places []int       // where it goes
	number api.Errno   // its numbers and its symbol
	all    int         // as many are there ahead of their types
	pops   []string    // the last one first
	broken api.Errno   // what is pushed may not be
	pushes [][]string  // for each place, and for where it goes on
	sets   map[int]int // a local that is set to the type that lies so far down
	goesOn bool
}

func lastOf(stack string, n int) []string {
	l := strings.Fields(stack)
	return l[max(len(l)-n, 0):]
}

func symbolOf(o object.Object, n int, i code.Inst) object.Symbol {
	for _, r := range o.Relocs {
		if ahead, _ := code.Takes(i.Op); r.Fun == n && r.At == i.At+ahead {
			return o.Symbols[r.Sym]
		}
	}
	panic("no relocation")
}

// takenBy tells what a function's symbol takes along, takes and gives.
func takenBy(o object.Object, s object.Symbol) (along, params []string, result string) {
	if s.Item.Name == "" {
		k, _ := strconv.Atoi(s.Item.Type)
		f := o.Funs[k]
		return f.Params[:f.Captures], f.Params[f.Captures:], f.Result
	}
	params, result, _ = types.Parts(s.Item.Type)
	return nil, params, result
}

func dealOf(o object.Object, n int, i code.Inst, s textState) deal {
	d := deal{places: i.To, goesOn: true}
	gives := func(l ...string) { d.pushes = [][]string{l} }
	number := func(why api.Errno, wrong bool) {
		if wrong && d.number == api.OK {
			d.number = why
		}
	}
	var symbol object.Symbol
	if _, ok := code.Takes(i.Op); ok {
		symbol = symbolOf(o, n, i)
	}
	locals := strings.Fields(s.locals)
	switch i.Op {
	case code.Push:
		gives("num")
	case code.Literal:
		gives("bytes")
	case code.Load:
		number(api.ErrRef, i.A >= o.Funs[n].Locals || locals[min(i.A, len(locals)-1)] == "-")
		if d.number == api.OK {
			gives(locals[i.A])
		}
	case code.Store:
		number(api.ErrRef, i.A >= o.Funs[n].Locals)
		d.all, d.pops, d.sets = 1, lastOf(s.stack, 1), map[int]int{i.A: 1}
	case code.Jump:
		d.goesOn = false
		d.pushes = [][]string{nil}
	case code.Zero:
		d.pops = []string{"num"}
		d.pushes = [][]string{nil, nil}
	case code.Do:
		number(api.ErrForm, i.A >= len(doNames))
		if d.number == api.OK {
			d.all = kidsOf(doNames[i.A])
			d.pops = lastOf(s.stack, d.all)
			made, ok := typeOfOp(doNames[i.A], append(slices.Clone(d.pops), noType, noType, noType)[:d.all])
			if !ok {
				d.pops = []string{noType}
			}
			gives(made)
		}
	case code.Array:
		number(api.ErrRef, i.B >= len(o.Texts))
		if d.number == api.OK {
			d.pops = slices.Repeat([]string{o.Texts[i.B]}, i.A)
			if len(o.Texts[i.B]) > api.MaxText-2 {
				d.broken = api.ErrType
			}
			gives("[" + o.Texts[i.B] + "]")
		}
	case code.Build:
		number(api.ErrRef, symbol.Item.Kind != api.Type)
		number(api.ErrRef, i.A >= len(symbol.Item.Cases))
		if d.number == api.OK {
			d.pops = symbol.Item.Cases[i.A].Fields
			gives(nameOf(symbol))
		}
	case code.Switch:
		d.goesOn = false
		number(api.ErrRef, symbol.Item.Kind != api.Type)
		number(api.ErrCount, i.A != len(symbol.Item.Cases))
		d.pops = []string{nameOf(symbol)}
		for _, c := range symbol.Item.Cases {
			d.pushes = append(d.pushes, c.Fields)
		}
	case code.Call, code.Close:
		number(api.ErrRef, symbol.Item.Kind != api.Fun)
		if d.number != api.OK {
			break
		}
		along, params, result := takenBy(o, symbol)
		if i.Op == code.Call {
			number(api.ErrRef, len(along) > 0)
			d.pops = params
			gives(result)
		} else {
			number(api.ErrCount, len(along) != i.A)
			d.pops = along
			gives("(" + strings.Join(params, ",") + ")" + result)
		}
	case code.Global:
		number(api.ErrRef, symbol.Item.Kind != api.Const)
		gives(symbol.Item.Type)
	case code.Apply:
		d.all = i.A + 1
		d.pops = lastOf(s.stack, d.all)
		result, ok := "", false
		if len(d.pops) == d.all {
			result, ok = strings.CutPrefix(d.pops[0], "("+strings.Join(d.pops[1:], ",")+")")
		}
		if !ok || i.A > api.MaxParams {
			d.pops = []string{noType}
		}
		gives(result)
	case code.Ret:
		d.goesOn = false
		d.pops = []string{o.Funs[n].Result}
		if strings.Count(s.stack, " ") > 1 {
			d.broken = api.ErrStack
		}
	}
	return d
}

// dealt is what a deal makes of a state, for each place where it goes, with next as where it goes on.
func dealt(d deal, s textState, isPlace func(int) bool, next int) ([]textState, api.Errno) {
	for _, at := range d.places {
		if !isPlace(at) {
			return nil, api.ErrJump
		}
	}
	if d.number != api.OK {
		return nil, d.number
	}
	if strings.Count(s.stack, " ") < d.all {
		return nil, api.ErrStack
	}
	locals := strings.Fields(s.locals)
	for local, down := range d.sets {
		locals[local] = lastOf(s.stack, down)[0]
	}
	stack := s.stack
	for _, t := range slices.Backward(d.pops) {
		if stack == "" {
			return nil, api.ErrStack
		}
		rest, ok := strings.CutSuffix(stack, " "+t)
		if !ok {
			return nil, api.ErrType
		}
		stack = rest
	}
	if d.broken != api.OK {
		return nil, d.broken
	}
	places := slices.Clone(d.places)
	if d.goesOn {
		places = append(places, next)
	}
	var out []textState
	for k, at := range places {
		left := textState{at: at, stack: stack, locals: strings.Join(locals, " ")}
		if k < len(d.pushes) {
			for _, t := range d.pushes[k] {
				left.stack += " " + t
			}
		}
		if strings.Count(left.stack, " ") > api.MaxStack {
			return nil, api.ErrStack
		}
		out = append(out, left)
	}
	return out, api.OK
}

// met is what all that come to a place have in common.
func met(all []textState, at int) (textState, bool) {
	here := slices.DeleteFunc(slices.Clone(all), func(s textState) bool { return s.at != at })
	if len(here) == 0 {
		return textState{}, false
	}
	common := strings.Fields(here[0].locals)
	for _, s := range here {
		if s.stack != here[0].stack {
			return textState{}, false
		}
		for k, t := range strings.Fields(s.locals) {
			if common[k] != t {
				common[k] = "-"
			}
		}
	}
	return textState{at: at, stack: here[0].stack, locals: strings.Join(common, " ")}, true
}

// funByText is Fun with states as texts, all of them kept, and gone through for each instruction.
func funByText(o object.Object, n int) (api.Errno, int) {
	list, why, at := code.Decode(o.Funs[n].Code)
	if why != api.OK {
		return why, at
	}
	refs := code.Refs(list)
	var ours []int
	for _, r := range o.Relocs {
		if r.Fun == n {
			ours = append(ours, r.At)
		}
	}
	for _, l := range [][2][]int{{refs, ours}, {ours, refs}} {
		for _, at := range l[0] {
			if !slices.Contains(l[1], at) {
				return api.ErrRef, at
			}
		}
	}
	isPlace := func(at int) bool { return slices.ContainsFunc(list, func(i code.Inst) bool { return i.At == at }) }
	f := o.Funs[n]
	first := strings.Join(append(slices.Clone(f.Params), slices.Repeat([]string{"-"}, f.Locals-len(f.Params))...), " ")
	all := []textState{{locals: first}}
	for k, i := range list {
		s, ok := met(all, i.At)
		if !ok {
			return api.ErrJump, i.At
		}
		next := len(f.Code)
		if k+1 < len(list) {
			next = list[k+1].At
		}
		out, why := dealt(dealOf(o, n, i, s), s, isPlace, next)
		if why != api.OK {
			return why, i.At
		}
		all = append(all, out...)
	}
	if len(list) == 0 {
		return api.ErrEnd, 0
	}
	if last := list[len(list)-1]; last.Op != code.Ret && last.Op != code.Jump && last.Op != code.Switch {
		return api.ErrEnd, last.At
	}
	return api.OK, 0
}

// fault is one of all that are wrong with an object: the step, the number, which of its refusals; why, and the place.
type fault struct {
	order [3]int
	why   api.Errno
	at    int
}

// objectByFaults is Object by all faults, of which the least is told.
func objectByFaults(o object.Object, l []api.Iface) (api.Errno, int, int) {
	if why, n := object.Right(o); why != api.OK {
		return why, n, 0
	}
	faults := symbolFaults(o, l)
	known := func(t string) bool {
		for _, name := range types.Names(t) {
			if !slices.ContainsFunc(o.Symbols, func(s object.Symbol) bool { return s.Item.Kind == api.Type && nameOf(s) == name }) &&
				!slices.ContainsFunc(o.Types, func(x api.Item) bool { return "m."+x.Name == name }) {
				return false
			}
		}
		return true
	}
	add := func(step, n int, why api.Errno, at int, wrong bool) {
		if wrong {
			faults = append(faults, fault{[3]int{step, n, 0}, why, at})
		}
	}
	for n, f := range o.Funs {
		why, at := funByText(o, n)
		add(5, n, why, at, why != api.OK)
		for _, t := range append(slices.Clone(f.Params[f.Captures:]), f.Result) {
			add(4, n, api.ErrType, 0, !known(t))
		}
	}
	for n, g := range o.Globals {
		f := o.Funs[g.Fun]
		add(3, n, api.ErrType, 0, !known(g.Type) || len(f.Params) > 0 || f.Result != g.Type)
	}
	for n, t := range o.Texts {
		add(2, n, api.ErrType, 0, !known(t))
	}
	if len(faults) == 0 {
		return api.OK, 0, 0
	}
	least := slices.MinFunc(faults, func(a, b fault) int { return slices.Compare(a.order[:], b.order[:]) })
	return least.why, least.order[1], least.at
}

func symbolFaults(o object.Object, l []api.Iface) (faults []fault) {
	for n, s := range o.Symbols {
		if s.Item.Name == "" {
			continue
		}
		var shown []api.Item
		if s.Module == o.Module {
			shown = ownByHand(o)
		} else {
			k := slices.IndexFunc(l, func(i api.Iface) bool { return i.Module == s.Module })
			if k < 0 {
				faults = append(faults, fault{[3]int{1, n, 0}, api.ErrNone, 0})
				continue
			}
			shown = l[k].Items
		}
		shown = slices.DeleteFunc(slices.Clone(shown), func(x api.Item) bool { return x.Name != s.Item.Name })
		if len(shown) == 0 {
			faults = append(faults, fault{[3]int{1, n, 1}, api.ErrMissing, 0})
		} else if !iface.Same(shown[0], s.Item) {
			faults = append(faults, fault{[3]int{1, n, 2}, api.ErrSignature, 0})
		}
	}
	return faults
}

func ownByHand(o object.Object) (l []api.Item) {
	for _, f := range o.Funs {
		if f.Name != "" {
			l = append(l, funItem(f.Name, "("+strings.Join(f.Params, ",")+")"+f.Result))
		}
	}
	for _, g := range o.Globals {
		l = append(l, constItem(g.Name, g.Type))
	}
	return append(l, o.Types...)
}
