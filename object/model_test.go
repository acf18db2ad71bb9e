package object_test

import (
	"encoding/binary"
	"fmt"
	"regexp"
	"slices"
	"sort"
	"strconv"
	"strings"

	"hawser/api"
	"hawser/object"
	"hawser/types"
)

// The model: P14.1 to P14.3 told once more, by all faults at once, by patterns and by what is thrown.

var (
	valueRule = regexp.MustCompile(`^[a-z_][A-Za-z0-9_]{0,23}$`)
	bigRule   = regexp.MustCompile(`^[A-Z][A-Za-z0-9_]{0,23}$`)
)

// fault is a refusal with its number, and where it stands among all that could be: by list, element, step, and steps within that.
type fault struct {
	rank []int
	why  api.Errno
	n    int
}

type faults []fault

func (l *faults) note(is bool, why api.Errno, n int, rank ...int) {
	if is {
		*l = append(*l, fault{rank, why, n})
	}
}

func (l faults) first() (api.Errno, int) {
	if len(l) == 0 {
		return api.OK, 0
	}
	least := slices.MinFunc(l, func(a, b fault) int { return slices.Compare(a.rank, b.rank) })
	return least.why, least.n
}

// The lists, in the order in which they are looked at.
const (
	inModule = iota
	inCounts
	inTypes
	inTexts
	inGlobals
	inFuns
	inExports
	inSymbols
	inRelocs
)

// rightByFaults gathers all that is wrong with an object, and takes the first.
func rightByFaults(o object.Object) (api.Errno, int) {
	var l faults
	l.note(!valueRule.MatchString(o.Module), api.ErrName, 0, inModule)
	for k, n := range []int{len(o.Types) - 32, len(o.Texts) - 32, len(o.Globals) - 32, len(o.Exports) - 32, len(o.Funs) - 48, len(o.Symbols) - 96, len(o.Relocs) - 384} {
		l.note(n > 0, api.ErrMany, 0, inCounts, k)
	}
	types := map[string]int{}
	for k, x := range o.Types {
		l.item(x, k, inTypes, k, 0)
		l.note(x.Kind != 1, api.ErrForm, k, inTypes, k, 1)
		types[x.Name]++
		l.note(types[x.Name] > 1, api.ErrTaken, k, inTypes, k, 2)
	}
	for k, s := range o.Texts {
		l.note(isNoType(s), api.ErrType, k, inTexts, k)
	}
	values := l.globals(o)
	l.funs(o, values)
	for k, s := range o.Exports {
		l.note(s == "" || types[s]+values[s] == 0, api.ErrNone, k, inExports, k, 0)
		l.note(k > 0 && strings.Compare(s, o.Exports[max(k-1, 0)]) < 1, api.ErrTaken, k, inExports, k, 1)
	}
	l.symbols(o)
	l.relocs(o)
	return l.first()
}

func isNoType(s string) bool { return !types.Right(s) }

// item notes what is wrong with an item of its own, as chapter 7 has it.
func (l *faults) item(x api.Item, n int, rank ...int) {
	note := func(is bool, why api.Errno, steps ...int) {
		l.note(is, why, n, slices.Concat(rank, steps)...)
	}
	isType := x.Kind == 1
	rule := valueRule
	if isType {
		rule = bigRule
	}
	note(!slices.Contains([]int{1, 2, 3}, x.Kind), api.ErrForm, 0)
	note(!rule.MatchString(x.Name), api.ErrName, 1)
	if !isType {
		note(len(x.Cases) > 0, api.ErrForm, 2)
		note(isNoType(x.Type) || x.Kind == 3 && x.Type[0] != '(', api.ErrType, 3)
		return
	}
	note(len(x.Type) > 0 || len(x.Cases) < 1 || 6 < len(x.Cases), api.ErrForm, 2)
	had := map[string]int{}
	for k, c := range x.Cases {
		had[c.Name]++
		note(!bigRule.MatchString(c.Name) || had[c.Name] > 1, api.ErrName, 3, k, 0)
		note(len(c.Fields) > 4, api.ErrCount, 3, k, 1)
		note(slices.ContainsFunc(c.Fields, isNoType), api.ErrType, 3, k, 2)
	}
}

// globals tells how often each name was met.
func (l *faults) globals(o object.Object) map[string]int {
	met := map[string]int{}
	for k, g := range o.Globals {
		met[g.Name]++
		l.note(!valueRule.MatchString(g.Name), api.ErrName, k, inGlobals, k, 0)
		l.note(met[g.Name] > 1, api.ErrTaken, k, inGlobals, k, 1)
		l.note(isNoType(g.Type), api.ErrType, k, inGlobals, k, 2)
		l.note(g.Fun < 0 || g.Fun >= len(o.Funs), api.ErrRef, k, inGlobals, k, 3)
	}
	return met
}

func (l *faults) funs(o object.Object, met map[string]int) {
	for k, f := range o.Funs {
		if f.Name != "" {
			met[f.Name]++
			l.note(!valueRule.MatchString(f.Name), api.ErrName, k, inFuns, k, 0)
			l.note(met[f.Name] > 1, api.ErrTaken, k, inFuns, k, 1)
			l.note(f.Captures > 0, api.ErrCount, k, inFuns, k, 2)
		}
		n := len(f.Params)
		l.note(n > 30, api.ErrCount, k, inFuns, k, 2)
		l.note(f.Captures < 0 || n < f.Captures, api.ErrCount, k, inFuns, k, 2)
		l.note(f.Captures >= 0 && n > 6 && f.Captures < n-6, api.ErrCount, k, inFuns, k, 2)
		l.note(f.Locals < n || 24 < f.Locals, api.ErrCount, k, inFuns, k, 2)
		l.note(slices.ContainsFunc(f.Params, isNoType) || isNoType(f.Result) || isNoType(signByHand(f)), api.ErrType, k, inFuns, k, 3)
		l.note(len(f.Code) >= 2049, api.ErrLong, k, inFuns, k, 4)
	}
}

func signByHand(f object.Fun) string {
	s := ""
	for k, param := range f.Params {
		if k < f.Captures {
			continue
		}
		if k > 0 && k > f.Captures {
			s += ","
		}
		s += param
	}
	return "(" + s + ")" + f.Result
}

func (l *faults) symbols(o object.Object) {
	met := map[string]int{}
	for k, s := range o.Symbols {
		l.note(!valueRule.MatchString(s.Module), api.ErrName, k, inSymbols, k, 0)
		key := fmt.Sprintf("%q %d %q", s.Module, s.Item.Kind, s.Item.Name)
		if s.Item.Name == "" {
			key += s.Item.Type
		}
		met[key]++
		l.note(met[key] > 1, api.ErrTaken, k, inSymbols, k, 2)
		if s.Module != o.Module || s.Item.Kind != 3 || s.Item.Name != "" {
			l.item(s.Item, k, inSymbols, k, 1)
			continue
		}
		l.note(len(s.Item.Cases) > 0, api.ErrForm, k, inSymbols, k, 1, 2)
		n, err := strconv.ParseUint(s.Item.Type, 10, 16)
		l.note(err != nil || strconv.FormatUint(n, 10) != s.Item.Type || n >= uint64(len(o.Funs)) || o.Funs[n].Name != "", api.ErrRef, k, inSymbols, k, 1, 3)
	}
}

func (l *faults) relocs(o object.Object) {
	for k, r := range o.Relocs {
		there := r.Fun >= 0 && r.Fun < len(o.Funs) && r.Sym >= 0 && r.Sym < len(o.Symbols) && r.At >= 0
		l.note(!there || r.At > 1<<30 || r.At+2 > len(o.Funs[r.Fun].Code), api.ErrRef, k, inRelocs, k, 0)
		if k > 0 {
			ahead := o.Relocs[k-1]
			l.note(slices.Compare([]int{ahead.Fun, ahead.At}, []int{r.Fun, r.At}) >= 0, api.ErrForm, k, inRelocs, k, 1)
		}
	}
}

// hand writes any object, a right one or not; numbers below 0 it can't.
type hand struct{ b []byte }

func (h *hand) number(n int) { h.b = binary.AppendUvarint(h.b, uint64(n)) }

func (h *hand) text(s string) {
	h.number(len(s))
	h.b = append(h.b, s...)
}

func (h *hand) texts(l []string) {
	h.number(len(l))
	for _, s := range l {
		h.text(s)
	}
}

func (h *hand) item(x api.Item) {
	h.number(x.Kind)
	h.text(x.Name)
	if x.Kind != 1 {
		h.text(x.Type)
		return
	}
	h.number(len(x.Cases))
	for _, c := range x.Cases {
		h.text(c.Name)
		h.texts(c.Fields)
	}
}

func bytesByHand(o object.Object) []byte {
	h := &hand{}
	h.text(o.Module)
	h.number(len(o.Types))
	for _, x := range o.Types {
		h.item(x)
	}
	h.texts(o.Texts)
	h.number(len(o.Globals))
	for _, g := range o.Globals {
		h.text(g.Name)
		h.text(g.Type)
		h.number(g.Fun)
	}
	h.number(len(o.Funs))
	for _, f := range o.Funs {
		h.text(f.Name)
		h.texts(f.Params)
		h.number(f.Captures)
		h.text(f.Result)
		h.number(f.Locals)
		h.text(string(f.Code))
	}
	h.texts(o.Exports)
	h.number(len(o.Symbols))
	for _, s := range o.Symbols {
		h.text(s.Module)
		h.item(s.Item)
	}
	h.number(len(o.Relocs))
	for _, r := range o.Relocs {
		h.number(r.Fun)
		h.number(r.At)
		h.number(r.Sym)
	}
	return h.b
}

// encodeByHand is P14.2.
func encodeByHand(o object.Object) ([]byte, api.Errno) {
	if why, _ := rightByFaults(o); why != api.OK {
		return nil, why
	}
	b := bytesByHand(o)
	if len(b) > 8192 {
		return nil, api.ErrLong
	}
	return b, api.OK
}

type refusal struct {
	why api.Errno
	at  int
}

// rest is what is not read yet, and how many bytes there were at first.
type rest struct {
	b     []byte
	whole int
}

func (r *rest) number(most uint64) int {
	at := r.whole - len(r.b)
	n, size := binary.Uvarint(r.b)
	switch {
	case size < 0 || size == 0 && len(r.b) >= 10:
		panic(refusal{api.ErrForm, at})
	case size == 0:
		panic(refusal{api.ErrEnd, r.whole})
	case size > 1 && r.b[size-1] == 0:
		panic(refusal{api.ErrForm, at})
	case n > most:
		panic(refusal{api.ErrLong, at})
	}
	r.b = r.b[size:]
	return int(n)
}

func (r *rest) n() int { return r.number(65535) }

func (r *rest) text(most uint64) string {
	n := r.number(most)
	if n > len(r.b) {
		panic(refusal{api.ErrEnd, r.whole})
	}
	s := string(r.b[:n])
	r.b = r.b[n:]
	return s
}

func (r *rest) texts(most uint64) (l []string) {
	for range r.n() {
		l = append(l, r.text(most))
	}
	return l
}

func (r *rest) item() (x api.Item) {
	x.Kind = r.n()
	x.Name = r.text(24)
	if x.Kind != 1 {
		x.Type = r.text(200)
		return x
	}
	for range r.n() {
		c := api.Case{Name: r.text(24)}
		c.Fields = r.texts(200)
		x.Cases = append(x.Cases, c)
	}
	return x
}

func (r *rest) fun() (f object.Fun) {
	f.Name = r.text(24)
	f.Params = r.texts(200)
	f.Captures = r.n()
	f.Result = r.text(200)
	f.Locals = r.n()
	f.Code = []byte(r.text(65535))
	return f
}

func (r *rest) object() (o object.Object) {
	o.Module = r.text(24)
	for range r.n() {
		o.Types = append(o.Types, r.item())
	}
	o.Texts = r.texts(200)
	for range r.n() {
		g := object.Global{Name: r.text(24)}
		g.Type = r.text(200)
		g.Fun = r.n()
		o.Globals = append(o.Globals, g)
	}
	for range r.n() {
		o.Funs = append(o.Funs, r.fun())
	}
	o.Exports = r.texts(24)
	for range r.n() {
		s := object.Symbol{Module: r.text(24)}
		s.Item = r.item()
		o.Symbols = append(o.Symbols, s)
	}
	for range r.n() {
		one := object.Reloc{Fun: r.n()}
		one.At = r.n()
		one.Sym = r.n()
		o.Relocs = append(o.Relocs, one)
	}
	if len(r.b) > 0 {
		panic(refusal{api.ErrTail, r.whole - len(r.b)})
	}
	return o
}

func decodeByThrows(b []byte) (o object.Object, why api.Errno, at int) {
	defer func() {
		if got := recover(); got != nil {
			r := got.(refusal)
			o, why, at = object.Object{}, r.why, r.at
		}
	}()
	if len(b) > 8192 {
		panic(refusal{api.ErrLong, 0})
	}
	o = (&rest{b, len(b)}).object()
	if why, _ := rightByFaults(o); why != api.OK {
		panic(refusal{why, 0})
	}
	return o, api.OK, 0
}

// ifaceByTaking takes all that a right object has, and then what is exported.
func ifaceByTaking(o object.Object) api.Iface {
	i := api.Iface{Module: o.Module}
	take := func(x api.Item) {
		if slices.Contains(o.Exports, x.Name) {
			i.Items = append(i.Items, x)
		}
	}
	for _, f := range o.Funs {
		if f.Name != "" {
			take(api.Item{Kind: api.Fun, Name: f.Name, Type: signByHand(f)})
		}
	}
	for _, x := range o.Types {
		take(x)
	}
	for _, g := range o.Globals {
		take(api.Item{Kind: api.Const, Name: g.Name, Type: g.Type})
	}
	sort.Slice(i.Items, func(a, b int) bool { return i.Items[a].Name < i.Items[b].Name })
	return i
}

func importsByMap(o object.Object) (l []string) {
	met := map[string]int{}
	for _, s := range o.Symbols {
		met[s.Module]++
	}
	for name := range met {
		if name != o.Module {
			l = append(l, name)
		}
	}
	sort.Strings(l)
	return l
}

func toldItem(x api.Item) string {
	s := fmt.Sprintf("{%d %q %q", x.Kind, x.Name, x.Type)
	for _, c := range x.Cases {
		s += fmt.Sprintf(" %q%q", c.Name, c.Fields)
	}
	return s + "}"
}

func toldIface(i api.Iface) string {
	s := fmt.Sprintf("%q", i.Module)
	for _, x := range i.Items {
		s += " " + toldItem(x)
	}
	return s
}

// told tells an object so that nil and empty lists are the same, and all else is not.
func told(o object.Object) string {
	s := fmt.Sprintf("%q types", o.Module)
	for _, x := range o.Types {
		s += " " + toldItem(x)
	}
	s += fmt.Sprintf(" texts %q globals", o.Texts)
	for _, g := range o.Globals {
		s += fmt.Sprintf(" {%q %q %d}", g.Name, g.Type, g.Fun)
	}
	s += " funs"
	for _, f := range o.Funs {
		s += fmt.Sprintf(" {%q %q %d %q %d %x}", f.Name, f.Params, f.Captures, f.Result, f.Locals, f.Code)
	}
	s += fmt.Sprintf(" exports %q symbols", o.Exports)
	for _, x := range o.Symbols {
		s += fmt.Sprintf(" %q%s", x.Module, toldItem(x.Item))
	}
	return s + fmt.Sprintf(" relocs %v", o.Relocs)
}
