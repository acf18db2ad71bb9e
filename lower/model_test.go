package lower_test

import (
	"maps"
	"slices"
	"strings"

	"hawser/api"
	numbers "hawser/num"
)

// The model: what chapter 12 says of expressions, with calls within calls, which counts beside the answer what code may spend.

// spent is what a run has taken, or what it may take.
type spent struct{ begun, heap, deepest int }

// thing is a value of the model.
type thing struct {
	api.Value // without Kids
	kids      []thing
	body      func(args []thing) thing
	along     []thing // of the machine's: what a closure takes along
	fun       place   // of which function
}

// ended is what the model panics with.
type ended struct{ why api.Errno }

func unless(ok bool, why api.Errno) {
	if !ok {
		panic(ended{why})
	}
}

// world is a program of the model. All names are m.x and m.C.
type world struct {
	spent
	fuel, open int
	consts     int // how many consts' bodies are open: one, or none
	now        map[string]thing
	funs       map[string]api.FunDef
	cases      map[string]int
}

// byModel is what the model answers of modules, each of which stands behind those that it imports, and what their code may spend.
func byModel(l []api.Module, entry string, args []api.Value, fuel int) (a api.Answer, may spent) {
	w := world{fuel: fuel, now: map[string]thing{}, funs: map[string]api.FunDef{}, cases: map[string]int{}}
	defer func() {
		may = spent{32 * w.begun, w.heap, w.deepest}
		if x := recover(); x != nil {
			a = api.Answer{Why: x.(ended).why}
		}
	}()
	w.define(l)
	for _, m := range l {
		for _, def := range m.Consts {
			w.consts, w.deepest = 1, max(w.deepest, 1)
			w.now[m.Name+"."+def.Name] = w.valueOf(def.Body, m.Name, nil)
		}
	}
	w.consts = 0
	var given []thing
	for _, v := range args {
		given = append(given, thingOf(v))
	}
	v := w.call(w.named(entry), given)
	unless(v.count() <= api.MaxShown, api.ErrHeap)
	return api.Answer{Value: v.shown()}, may
}

func (w *world) define(l []api.Module) {
	for _, m := range l {
		for _, def := range m.Types {
			for n, one := range def.Cases {
				w.cases[m.Name+"."+one.Name] = n
			}
		}
		for _, def := range m.Funs {
			w.funs[m.Name+"."+def.Name] = def
		}
	}
}

// full is a name with its module.
func full(module, name string) string {
	if strings.Contains(name, ".") {
		return name
	}
	return module + "." + name
}

// named is what a name that is no local's means.
func (w *world) named(name string) thing {
	if def, ok := w.funs[name]; ok {
		module, _, _ := strings.Cut(name, ".")
		return w.closure(def.Params, def.Body, module, nil)
	}
	v, ok := w.now[name]
	unless(ok, api.ErrInit)
	return v
}

func (w *world) closure(params []api.Param, body api.Expr, module string, locals map[string]thing) thing {
	return thing{Value: closure(), body: func(args []thing) thing {
		inner := maps.Clone(locals)
		if inner == nil {
			inner = map[string]thing{}
		}
		for k, param := range params {
			inner[param.Name] = args[k]
		}
		return w.valueOf(body, module, inner)
	}}
}

func (w *world) call(f thing, args []thing) thing {
	unless(w.open < 1000, api.ErrDepth)
	w.open++
	w.deepest = max(w.deepest, w.open+w.consts)
	v := f.body(args)
	w.open--
	return v
}

// valueOf counts what an expression holds behind it, since that shows only then.
func (w *world) valueOf(e api.Expr, module string, locals map[string]thing) thing {
	unless(w.begun < w.fuel, api.ErrFuel)
	w.begun++
	v := w.valueByKind(e, module, locals)
	w.heap += 8
	switch {
	case e.Kind == api.Lambda, e.Kind == api.Var:
		w.heap += 8 * 24
	case e.Kind == api.List, e.Kind == api.Make, e.Kind == api.Op && e.Name == "cat":
		w.heap += 8*len(v.kids) + len(v.B)
	case e.Kind == api.Text, e.Kind == api.Op && e.Name == "cut":
		w.heap += len(v.B)
	}
	return v
}

func (w *world) valueByKind(e api.Expr, module string, locals map[string]thing) thing {
	var kids []thing
	kid := func(k int) thing { return w.valueOf(e.Kids[k], module, locals) }
	if e.Kind == api.Op || e.Kind == api.List || e.Kind == api.Make || e.Kind == api.Apply || e.Kind == api.Call {
		for k := range e.Kids {
			kids = append(kids, kid(k))
		}
	}
	switch e.Kind {
	case api.Number:
		return thing{Value: num(e.N)}
	case api.Text:
		return thing{Value: text(e.Text)}
	case api.Var:
		if v, ok := locals[e.Name]; ok {
			return v
		}
		return w.named(full(module, e.Name))
	case api.Let:
		return w.valueOf(e.Kids[1], module, also(locals, []string{e.Name}, []thing{kid(0)}))
	case api.If:
		if kid(0).N != 0 {
			return kid(1)
		}
		return kid(2)
	case api.Op:
		return opByModel(e.Name, kids)
	case api.List:
		return thing{Value: array(), kids: kids}
	case api.Make:
		return thing{Value: variant(w.cases[full(module, e.Name)]), kids: kids}
	case api.Match:
		v := kid(0)
		arm := e.Arms[slices.IndexFunc(e.Arms, func(arm api.Arm) bool { return w.cases[full(module, arm.Case)] == v.Case })]
		return w.valueOf(arm.Body, module, also(locals, arm.Vars, v.kids))
	case api.Lambda:
		return w.closure(e.Params, e.Kids[0], module, locals)
	case api.Apply:
		return w.call(kids[0], kids[1:])
	}
	return w.call(w.named(full(module, e.Name)), kids)
}

// also is locals and some more, in a map of their own.
func also(locals map[string]thing, names []string, l []thing) map[string]thing {
	out := map[string]thing{}
	maps.Copy(out, locals)
	for k, name := range names {
		out[name] = l[k]
	}
	return out
}

// opByModel serves the machine, too: what an operation does is not lower's.
func opByModel(op string, l []thing) thing {
	long := len(l[0].B) + len(l[0].kids)
	index := func(k int) int {
		n := l[k].N
		unless(imag(n) == 0 && real(n) >= 0, api.ErrIndex)
		return int(real(n))
	}
	switch op {
	case "add", "sub", "mul":
		n, why := numbers.Two(op, l[0].N, l[1].N)
		unless(why == api.OK, why)
		return thing{Value: num(n)}
	case "neg", "conj", "re", "im":
		n, _ := numbers.One(op, l[0].N)
		return thing{Value: num(n)}
	case "eq":
		return truth(l[0].N == l[1].N && string(l[0].B) == string(l[1].B))
	case "lt":
		return truth(numbers.Less(l[0].N, l[1].N))
	case "len":
		return thing{Value: num(complex(float64(long), 0))}
	case "cat":
		unless(long+len(l[1].B)+len(l[1].kids) <= api.MaxLength, api.ErrRange)
		v := api.Value{Kind: l[0].Kind, B: slices.Concat(l[0].B, l[1].B)}
		return thing{Value: v, kids: slices.Concat(l[0].kids, l[1].kids)}
	case "at":
		k := index(1)
		unless(k < long, api.ErrIndex)
		if l[0].Kind == api.Bytes {
			return thing{Value: num(complex(float64(l[0].B[k]), 0))}
		}
		return l[0].kids[k]
	}
	from, to := index(1), index(2)
	unless(from <= to && to <= long, api.ErrIndex)
	return thing{Value: text(string(l[0].B[from:to]))}
}

func truth(ok bool) thing {
	if ok {
		return thing{Value: num(1)}
	}
	return thing{Value: num(0)}
}

func thingOf(v api.Value) thing {
	out := thing{Value: v}
	out.Kids = nil
	for _, kid := range v.Kids {
		out.kids = append(out.kids, thingOf(kid))
	}
	return out
}

// count stops when there are too many.
func (v thing) count() int {
	n := 1
	for _, kid := range v.kids {
		if n > api.MaxShown {
			break
		}
		n += kid.count()
	}
	return n
}

func (v thing) shown() api.Value {
	for _, kid := range v.kids {
		v.Kids = append(v.Kids, kid.shown())
	}
	return v.Value
}

func num(c complex128) api.Value { return api.Value{Kind: api.Num, N: c} }

func text(s string) api.Value { return api.Value{Kind: api.Bytes, B: []byte(s)} }

func array(kids ...api.Value) api.Value { return api.Value{Kind: api.Array, Kids: kids} }

func variant(number int, kids ...api.Value) api.Value {
	return api.Value{Kind: api.Variant, Case: number, Kids: kids}
}

func closure() api.Value { return api.Value{Kind: api.Closure} }
