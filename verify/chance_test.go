package verify_test

import (
	"fmt"
	"math/rand"
	"slices"
	"strconv"
	"strings"
	"testing"

	"hawser/api"
	"hawser/code"
	"hawser/object"
	"hawser/types"
	"hawser/verify"
)

// maker makes code by chance, in words. locals are what it knows of them, "" for one that is unset.
type maker struct {
	*rand.Rand
	lines  []string
	locals []string
	labels int
}

func (m *maker) of(l ...string) string { return l[m.Intn(len(l))] }

func (m *maker) put(format string, args ...any) {
	m.lines = append(m.lines, fmt.Sprintf(format, args...))
}

func (m *maker) label() string {
	m.labels++
	return "l" + strconv.Itoa(m.labels)
}

// here lets a label stand ahead of what is put next.
func (m *maker) here(label string) { m.lines = append(m.lines, label+":") }

// text is the code so far: a label stands in the line of what is behind it.
func (m *maker) text() string {
	return strings.ReplaceAll(strings.Join(m.lines, "; "), ":; ", ": ")
}

var goals = []string{"num", "num", "bytes", "[num]", "[bytes]", "[m.T]", "m.T", "m.Six", "m.One", "n.U", "(num)num", "()num", "(num,bytes)bytes", "(num)n.U", "(bytes)m.T", "[n.U]"}

// leaf pushes something of a type at once.
func (m *maker) leaf(t string) {
	m.put("%s", map[string]string{
		"num": "push", "bytes": m.of("lit", "global m.c", "call #0"), "[num]": m.of("array 0 num", "global m.d", "call #4"), "[bytes]": "array 0 bytes", "[m.T]": "array 0 T", "[n.U]": "array 0 U",
		"m.T": "build 0 m.T", "m.Six": m.of("build 0 m.Six", "build 3 m.Six"), "n.U": m.of("global n.e", "build 0 n.U"), "m.One": "push; push; push; push; build 0 m.One",
		"()num": m.of("close 0 m.k", "close 0 n.z", "push; close 1 #7"), "(num,bytes)bytes": "close 0 m.g", "(num)n.U": "close 0 n.h", "(num)num": "lit; close 1 #2", "(bytes)m.T": "push; build 0 m.T; close 2 #5",
	}[t])
}

// value puts code that leaves one of a type.
func (m *maker) value(t string, deep int) {
	var known []string
	for k, of := range m.locals {
		if of == t {
			known = append(known, strconv.Itoa(k))
		}
	}
	switch n := m.Intn(10); {
	case deep <= 0 && len(known) > 0, n == 0 && len(known) > 0:
		m.put("load %s", m.of(known...))
	case deep <= 0:
		m.leaf(t)
	case n <= 2:
		m.branch(t, deep-1)
	case n == 3:
		m.split(t, deep-1)
	case n == 4:
		k := m.Intn(len(m.locals))
		of := m.of(goals...)
		m.value(of, deep-1)
		m.put("store %d", k)
		m.locals[k] = of
		m.value(t, deep-1)
	default:
		m.whole(t, deep-1)
	}
}

func (m *maker) values(deep int, l ...string) {
	for _, t := range l {
		m.value(t, deep)
	}
}

// whole makes one of a type of others.
func (m *maker) whole(t string, deep int) {
	ways := []func(){func() { m.leaf(t) }}
	way := func(op string, of ...string) {
		ways = append(ways, func() {
			m.values(deep, of...)
			m.put("%s", op)
		})
	}
	switch t {
	case "num":
		way("do "+m.of("add", "sub", "mul", "lt", "eq"), "num", "num")
		way("do "+m.of("neg", "conj", "re", "im"), "num")
		way("do eq", "bytes", "bytes")
		way("do len", m.of("bytes", "[num]", "[m.T]"))
		way("do at", m.of("bytes", "[num]"), "num")
		way("apply 0", "()num")
		way("apply 1", "(num)num", "num")
		way("call n.z")
	case "bytes":
		way("do cut", "bytes", "num", "num")
		way("do cat", "bytes", "bytes")
		way("call m.g", "num", "bytes")
		way("apply 2", "(num,bytes)bytes", "num", "bytes")
		way("do at", "[bytes]", "num")
	case "m.T":
		way("build 1 m.T", "num", "bytes")
		way("apply 1", "(bytes)m.T", "bytes")
		way("do at", "[m.T]", "num")
	case "m.Six":
		way("build 1 m.Six", "m.Six")
		way("build 5 m.Six", "num", "bytes", "m.T", "[num]")
	case "m.One":
		way("build 0 m.One", "num", "num", "num", "num")
	case "n.U":
		way("call n.h", "num")
		way("apply 1", "(num)n.U", "num")
	case "()num":
		way("close 1 #7", "num")
	case "(num)num":
		way("close 1 #2", "bytes")
	case "(bytes)m.T":
		way("close 2 #5", "num", "m.T")
	}
	if elem, ok := types.Elem(t); ok {
		way("do cat", t, t)
		name := map[string]string{"num": "num", "bytes": "bytes", "m.T": "T", "n.U": "U"}[elem]
		way("array 1 "+name, elem)
		way("array 3 "+name, elem, elem, elem)
	}
	ways[m.Intn(len(ways))]()
}

// meet is what is known of locals where two ways meet.
func meet(a, b []string) []string {
	out := slices.Clone(a)
	for k := range out {
		if out[k] != b[k] {
			out[k] = ""
		}
	}
	return out
}

func (m *maker) branch(t string, deep int) {
	other, end := m.label(), m.label()
	m.value("num", deep)
	m.put("zero %s", other)
	ahead := slices.Clone(m.locals)
	m.value(t, deep)
	m.put("jump %s", end)
	m.here(other)
	first := m.locals
	m.locals = ahead
	m.value(t, deep)
	m.here(end)
	m.locals = meet(first, m.locals)
}

func (m *maker) split(t string, deep int) {
	of := m.of("m.T", "m.Six", "m.One", "n.U")
	var cases []api.Case
	for _, s := range symbolsOf("") {
		if nameOf(s) == of {
			cases = s.Item.Cases
		}
	}
	m.value(of, deep)
	end, line := m.label(), "switch "+of
	var ways []string
	for range cases {
		ways = append(ways, m.label())
		line += " " + ways[len(ways)-1]
	}
	m.put("%s", line)
	ahead := slices.Clone(m.locals)
	var met []string
	for _, k := range m.Perm(len(cases)) {
		m.here(ways[k])
		m.locals = slices.Clone(ahead)
		for _, f := range slices.Backward(cases[k].Fields) {
			local := m.Intn(len(m.locals))
			m.put("store %d", local)
			m.locals[local] = f
		}
		m.value(t, deep)
		m.put("jump %s", end)
		if met == nil {
			met = m.locals
		}
		met = meet(met, m.locals)
	}
	m.here(end)
	m.locals = met
}

// function is one that is let by, unless it needs too much.
func (m *maker) function() fn {
	f := fn{name: "f", result: m.of(goals...), more: 1 + m.Intn(6)}
	params := []string{}
	for range m.Intn(4) {
		params = append(params, m.of(goals...))
	}
	f.params = strings.Join(params, " ")
	m.locals = append(slices.Clone(params), make([]string, f.more)...)
	m.lines = nil
	m.value(f.result, m.Intn(5))
	m.put("ret")
	f.text = m.text()
	return f
}

// strays are instructions that may stand anywhere, right or not.
func (m *maker) stray() string {
	number := func() int { return []int{0, 1, 2, 3, 5, 6, 8, 13, 255}[m.Intn(9)] }
	symbol := func() string {
		l := symbolsOf("")
		return m.of(nameOf(l[m.Intn(len(l))]), nameOf(l[m.Intn(len(l))]), "-")
	}
	switch m.Intn(15) {
	case 0:
		return m.of("push", "push; push; push")
	case 1:
		return "lit"
	case 2:
		return fmt.Sprint("load ", number())
	case 3:
		return fmt.Sprint("store ", number())
	case 4:
		return fmt.Sprint("jump ", m.Intn(9))
	case 5:
		return fmt.Sprint("zero ", m.Intn(9))
	case 6:
		return fmt.Sprint("do ", m.Intn(15))
	case 7:
		return fmt.Sprint("array ", m.Intn(4), " ", m.Intn(10))
	case 8:
		return fmt.Sprint("build ", m.Intn(4), " ", symbol())
	case 9:
		return fmt.Sprint("switch ", symbol(), strings.Repeat(" 0", 1+m.Intn(6)))
	case 10:
		return "call " + symbol()
	case 11:
		return "global " + symbol()
	case 12:
		return fmt.Sprint("close ", m.Intn(3), " ", symbol())
	case 13:
		return fmt.Sprint("apply ", m.Intn(4))
	}
	return m.of("ret", times(48, "push")+"push")
}

// hurt is code with one line taken away, doubled, put elsewhere or in the place of another; labels stay where they are.
func (m *maker) hurt(text string) string {
	lines := strings.Split(text, "; ")
	k, n := m.Intn(len(lines)), m.Intn(len(lines))
	labels, one := cutLabels(lines[k])
	if strings.TrimSpace(one) == "" {
		one = m.stray()
	}
	_, other := cutLabels(lines[n])
	if strings.HasPrefix(other, "jump l") || strings.HasPrefix(other, "zero l") || strings.HasPrefix(other, "switch") {
		other = m.stray() // its labels may lie ahead
	}
	switch m.Intn(7) {
	case 0:
		one = ""
	case 1:
		one += "; " + other
	case 2:
		one = other
	case 3:
		one = m.stray()
	case 4:
		one = m.stray() + "; " + one
	case 5:
		words := strings.Fields(one)
		w := m.Intn(len(words))
		if _, err := strconv.Atoi(words[w]); err == nil {
			words[w] = strconv.Itoa(m.Intn(10))
		} else if strings.ContainsAny(words[w], ".#") && !strings.Contains(one, "fn") {
			l := symbolsOf("")
			words[w] = nameOf(l[m.Intn(len(l))])
		} else if words[w][0] == 'l' && w > 0 && words[0] != "array" {
			words[w] = strconv.Itoa(m.Intn(12))
		}
		one = strings.Join(words, " ")
	case 6:
		one = "do " + m.of(doNames...)
	}
	lines[k] = labels + one
	return strings.ReplaceAll(strings.ReplaceAll(strings.Join(lines, "; "), "; ; ", "; "), ": ; ", ": ")
}

func cutLabels(line string) (labels, rest string) {
	if k := strings.LastIndex(line, ": "); k >= 0 {
		return line[:k+2], line[k+2:]
	}
	return "", line
}

// wantAsModel: Object and each Fun answer what the models do; what is let by runs.
func wantAsModel(t *testing.T, o object.Object, seed int64) api.Errno {
	t.Helper()
	l := ifaces()
	why, n, at := verify.Object(o, l)
	if wantWhy, wantN, wantAt := objectByFaults(o, l); why != wantWhy || n != wantN || at != wantAt {
		t.Fatalf("Object: %v, %d, %d, want %v, %d, %d: %.3000s", why, n, at, wantWhy, wantN, wantAt, told(o))
	}
	if right, _ := object.Right(o); right == api.OK {
		for n := range o.Funs {
			why, at := verify.Fun(o, n)
			if wantWhy, wantAt := funByText(o, n); why != wantWhy || at != wantAt {
				t.Fatalf("Fun %d: %v at %d, want %v at %d: %.3000s", n, why, at, wantWhy, wantAt, toldCode(o.Funs[n].Code))
			}
		}
	}
	if why == api.OK {
		wantRuns(t, o, seed, 2, map[int]int{})
	}
	return why
}

func enough(t *testing.T, met map[api.Errno]int, least int, list ...api.Errno) {
	t.Helper()
	for _, why := range list {
		if met[why] < least {
			t.Errorf("%v met only %d times", why, met[why])
		}
	}
}

// P15.2 and P15.3 of code that keeps its types.
func TestCodeByChance(t *testing.T) {
	t.Parallel()
	m := &maker{Rand: rand.New(rand.NewSource(15))}
	met := map[api.Errno]int{}
	for k := range 500 {
		f := m.function()
		if put(f.text).code == nil || len(put(f.text).code) > api.MaxCode {
			continue
		}
		why := wantAsModel(t, scene(f), int64(k))
		if why != api.OK && why != api.ErrStack {
			t.Fatalf("%.2000s: %v", f.text, why)
		}
		met[why]++
	}
	enough(t, met, 400, api.OK)
}

// P15.2 and P15.3 of code in which something was turned.
func TestHurtCodeByChance(t *testing.T) {
	t.Parallel()
	m := &maker{Rand: rand.New(rand.NewSource(151))}
	met := map[api.Errno]int{}
	for k := range 2000 {
		f := m.function()
		for range 1 + m.Intn(2) {
			f.text = m.hurt(f.text)
		}
		if len(put(f.text).code) <= api.MaxCode {
			met[wantAsModel(t, scene(f), int64(k))]++
		}
	}
	enough(t, met, 5, api.OK, api.ErrEnd, api.ErrForm, api.ErrType, api.ErrCount, api.ErrStack, api.ErrRef, api.ErrJump)
}

// P15.2 of code by instructions without a plan, and of bytes that were turned.
func TestBytesByChance(t *testing.T) {
	t.Parallel()
	m := &maker{Rand: rand.New(rand.NewSource(152))}
	met := map[api.Errno]int{}
	for k := range 2000 {
		f := m.function()
		if k%2 == 0 {
			lines := []string{}
			for range m.Intn(12) {
				lines = append(lines, m.stray())
			}
			f.text = strings.Join(append(lines, "ret"), "; ")
		}
		o := scene(f)
		b := o.Funs[1].Code
		for range m.Intn(3) {
			b[m.Intn(len(b))] = byte([]int{0, 1, 2, 3, 4, 5, 9, 13, 15, 255, m.Intn(256)}[m.Intn(11)])
		}
		met[wantAsModel(t, o, int64(k))]++
	}
	enough(t, met, 5, api.OK, api.ErrEnd, api.ErrForm, api.ErrType, api.ErrStack, api.ErrRef, api.ErrJump)
}

// hurtObject turns something that P15.1 asks for.
func hurtObject(m *maker, o *object.Object) {
	odd := func() string { return m.of(append(slices.Concat(knowns, unknowns), "x")...) }
	switch m.Intn(10) {
	case 0, 1, 2:
		h := symbolHurts()[m.Intn(len(symbolHurts()))]
		if n := symbolAt(*o, h.name); n >= 0 {
			h.turn(&o.Symbols[n])
		}
	case 3:
		o.Texts[m.Intn(len(o.Texts))] = odd()
	case 4:
		o.Globals[m.Intn(len(o.Globals))].Type = odd()
	case 5:
		o.Globals[m.Intn(len(o.Globals))].Fun = m.Intn(len(o.Funs) + 1)
	case 6:
		o.Funs[m.Intn(len(o.Funs))].Result = odd()
	case 7:
		if f := &o.Funs[m.Intn(len(o.Funs))]; len(f.Params) > 0 {
			f.Params[m.Intn(len(f.Params))] = odd()
		}
	case 8:
		if len(o.Relocs) > 0 {
			r := &o.Relocs[m.Intn(len(o.Relocs))]
			*r = object.Reloc{Fun: r.Fun, At: r.At + m.Intn(3) - 1, Sym: m.Intn(len(o.Symbols))}
		}
	case 9:
		n := m.Intn(len(o.Symbols))
		o.Symbols = slices.Concat(o.Symbols[n:], o.Symbols[:n])
	}
}

// P15.1 of objects in which something was turned.
func TestObjectsByChance(t *testing.T) {
	t.Parallel()
	m := &maker{Rand: rand.New(rand.NewSource(153))}
	met := map[api.Errno]int{}
	for k := range 1500 {
		o := scene(m.function())
		for range m.Intn(4) {
			hurtObject(m, &o)
		}
		met[wantAsModel(t, o, int64(k))]++
	}
	enough(t, met, 5, api.OK, api.ErrType, api.ErrRef, api.ErrNone, api.ErrMissing, api.ErrSignature)
}

func FuzzCode(f *testing.F) {
	for _, x := range ordinaries() {
		f.Add(put(x.text).code, uint8(3))
	}
	f.Add([]byte{11, 0, 0, 15}, uint8(4))
	f.Fuzz(func(t *testing.T, b []byte, symbol uint8) {
		if len(b) > api.MaxCode {
			b = b[:api.MaxCode]
		}
		o := scene(of("push; ret"))
		o.Funs[1].Code = b
		list, _, _ := code.Decode(b)
		others := slices.IndexFunc(o.Relocs, func(r object.Reloc) bool { return r.Fun > 1 })
		var relocs []object.Reloc
		for k, at := range code.Refs(list) {
			relocs = append(relocs, object.Reloc{Fun: 1, At: at, Sym: (int(symbol) + k*(1+int(symbol>>5))) % len(o.Symbols)})
		}
		if len(relocs) > 300 {
			return
		}
		o.Relocs = slices.Concat(o.Relocs[:others], relocs, o.Relocs[others:])
		wantAsModel(t, o, int64(symbol))
	})
}

func FuzzMade(f *testing.F) {
	f.Add(int64(1), uint8(0))
	f.Add(int64(2), uint8(3))
	f.Fuzz(func(t *testing.T, seed int64, hurts uint8) {
		m := &maker{Rand: rand.New(rand.NewSource(seed))}
		x := m.function()
		for range hurts % 4 {
			x.text = m.hurt(x.text)
		}
		if len(put(x.text).code) > api.MaxCode {
			return
		}
		o := scene(x)
		for range hurts / 4 % 4 {
			hurtObject(m, &o)
		}
		wantAsModel(t, o, seed)
	})
}
