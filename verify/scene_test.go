package verify_test

import (
	"fmt"
	"slices"
	"strconv"
	"strings"

	"hawser/api"
	"hawser/code"
	"hawser/object"
)

// ref is where a reference stands, and the name of the symbol that it means.
type ref struct {
	at   int
	name string
}

// written is code that was put together of words.
type written struct {
	code   []byte
	refs   []ref
	marked int // the place of the instruction with a "!", or of the reference of the one with a "?"
}

// line is one instruction in words.
type line struct {
	mark   string
	labels []string
	words  []string
}

func lineOf(s string) line {
	var l line
	for _, word := range strings.Fields(s) {
		if rest := strings.TrimLeft(word, "!?"); rest != word {
			l.mark, word = word[:1], rest
		}
		if label, ok := strings.CutSuffix(word, ":"); ok {
			l.labels = append(l.labels, label)
		} else {
			l.words = append(l.words, word)
		}
	}
	return l
}

var opNames = strings.Fields("push lit load store jump zero do array build switch call global close apply ret")

var doNames = strings.Fields("add sub mul neg conj re im eq lt cat len at cut")

func opOf(word string) int { return 1 + slices.Index(opNames, word) }

// numberOf reads a number, or a name by its place in a list.
func numberOf(word string, names []string) byte {
	if n := slices.Index(names, word); n >= 0 {
		return byte(n)
	}
	n, err := strconv.Atoi(word)
	if err != nil {
		panic(err)
	}
	return byte(n)
}

// bytesOf is an instruction without where it goes, and its symbol's name: its ways, if it has some, stand last.
func (l line) bytesOf() (b []byte, symbol string, ways []string) {
	if len(l.words) == 0 {
		return nil, "", nil
	}
	word, rest := l.words[0], l.words[1:]
	b = []byte{byte(opOf(word))}
	switch word {
	case "raw":
		b = b[:0]
		for _, x := range rest {
			n, _ := strconv.ParseUint(x, 16, 8)
			b = append(b, byte(n))
		}
	case "push":
		b = append(b, 2, 0)
	case "lit":
		b = append(b, 1, 'a')
	case "load", "store", "apply":
		b = append(b, numberOf(rest[0], nil))
	case "do":
		b = append(b, numberOf(rest[0], doNames))
	case "array":
		b = append(b, numberOf(rest[0], nil), numberOf(rest[1], textNames))
	case "build", "close":
		b, symbol = append(b, numberOf(rest[0], nil)), rest[1]
	case "switch":
		b, symbol, ways = append(b, byte(len(rest)-1)), rest[0], rest[1:]
	case "call", "global":
		symbol = rest[0]
	case "jump", "zero":
		ways = rest
	case "ret":
	default:
		panic("no instruction: " + word)
	}
	return b, symbol, ways
}

// size is how many bytes an instruction has.
func (l line) size() int {
	b, symbol, ways := l.bytesOf()
	n := len(b) + 2*len(ways)
	if symbol != "" {
		n += 2
	}
	return n
}

// put puts code together. A way is a label, or how many bytes behind the instruction; a symbol of the name - has no relocation.
func put(text string) written {
	var out written
	var lines []line
	labels := map[string]int{}
	at := 0
	for _, s := range strings.Split(text, ";") {
		l := lineOf(s)
		lines = append(lines, l)
		for _, label := range l.labels {
			labels[label] = at
		}
		at += l.size()
	}
	for _, l := range lines {
		b, symbol, ways := l.bytesOf()
		from, behind := len(out.code), len(out.code)+l.size()
		switch l.mark {
		case "!":
			out.marked = from
		case "?":
			out.marked = from + len(b)
		}
		out.code = append(out.code, b...)
		if symbol != "" {
			if symbol != "-" {
				out.refs = append(out.refs, ref{len(out.code), symbol})
			}
			out.code = append(out.code, 0, 0)
		}
		for _, w := range ways {
			n, err := strconv.Atoi(w)
			if err != nil {
				to, ok := labels[w]
				if !ok || to < behind {
					panic("no way to " + w)
				}
				n = to - behind
			}
			out.code = append(out.code, byte(n>>8), byte(n))
		}
	}
	return out
}

func caseOf(name string, fields ...string) api.Case { return api.Case{Name: name, Fields: fields} }

func typeItem(name string, cases ...api.Case) api.Item {
	return api.Item{Kind: api.Type, Name: name, Cases: cases}
}

func constItem(name, of string) api.Item { return api.Item{Kind: api.Const, Name: name, Type: of} }

func funItem(name, of string) api.Item { return api.Item{Kind: api.Fun, Name: name, Type: of} }

func nest(n int) string {
	return strings.Repeat("[", n) + "(num,num)num" + strings.Repeat("]", n)
}

// longest is a type that no array can be of; the array of longish is longest.
var longest, longish = nest(94), nest(93)

// textNames are how the words of array call the scene's Texts.
var textNames = []string{"num", "bytes", "T", "longest", "longish", "fn", "row", "U"}

func texts() []string {
	return []string{"num", "bytes", "m.T", longest, longish, "(num)num", "[num]", "n.U"}
}

func ownTypes() []api.Item {
	return []api.Item{
		typeItem("T", caseOf("A"), caseOf("B", "num", "bytes")),
		typeItem("One", caseOf("O", "num", "num", "num", "num")),
		typeItem("Six", caseOf("A"), caseOf("B", "m.Six"), caseOf("C", "num", "num"), caseOf("D"), caseOf("E", "bytes"), caseOf("F", "num", "bytes", "m.T", "[num]")),
	}
}

const wide = "(num,bytes,num,bytes,num,bytes)m.T"

// symbolsOf are the scene's symbols, those of other modules among them, where f has that type.
func symbolsOf(sign string) []object.Symbol {
	types := ownTypes()
	return []object.Symbol{
		{Module: "n", Item: typeItem("U", caseOf("P"), caseOf("R", "n.U", "q.Unknown"))},
		{Module: "m", Item: types[0]},
		{Module: "m", Item: constItem("c", "bytes")},
		{Module: "m", Item: funItem("", "2")},
		{Module: "m", Item: funItem("f", sign)},
		{Module: "m", Item: funItem("g", "(num,bytes)bytes")},
		{Module: "m", Item: funItem("k", "()num")},
		{Module: "m", Item: funItem("", "0")},
		{Module: "m", Item: funItem("", "4")},
		{Module: "m", Item: funItem("", "5")},
		{Module: "m", Item: funItem("", "7")},
		{Module: "m", Item: types[1]},
		{Module: "m", Item: types[2]},
		{Module: "m", Item: constItem("d", "[num]")},
		{Module: "n", Item: funItem("h", "(num)n.U")},
		{Module: "n", Item: funItem("z", "()num")},
		{Module: "n", Item: constItem("e", "n.U")},
		{Module: "n", Item: constItem("long", longish)},
		{Module: "n", Item: constItem("longer", longest)},
		{Module: "k", Item: typeItem("V", caseOf("One", "[k.V]", "n.U"))},
		{Module: "k", Item: funItem("wide", wide)},
	}
}

func ifaces() []api.Iface {
	return []api.Iface{
		{Module: "q", Items: []api.Item{funItem("h", "()num")}},
		{Module: "n", Items: []api.Item{
			typeItem("U", caseOf("P"), caseOf("R", "n.U", "q.Unknown")),
			constItem("e", "n.U"),
			funItem("h", "(num)n.U"),
			constItem("long", longish),
			constItem("longer", longest),
			funItem("unused", "()num"),
			funItem("z", "()num"),
		}},
		{Module: "k", Items: []api.Item{
			typeItem("V", caseOf("One", "[k.V]", "n.U")),
			funItem("wide", wide),
		}},
	}
}

// fn is a function in words: its parameters (those ahead of the bar are taken along), result, locals beyond the parameters, code.
type fn struct {
	name, taken, params, result string
	more                        int
	text                        string
}

func (f fn) made() object.Fun {
	taken, params := strings.Fields(f.taken), strings.Fields(f.params)
	all := slices.Concat(taken, params)
	return object.Fun{Name: f.name, Params: all, Captures: len(taken), Result: f.result, Locals: len(all) + f.more, Code: put(f.text).code}
}

// funs are the scene's functions, of which tested is number 1.
func funs(tested fn) []fn {
	return []fn{
		{result: "bytes", text: "lit; ret"},
		tested,
		{taken: "bytes", params: "num", result: "num", text: "load 1; ret"},
		{name: "g", params: "num bytes", result: "bytes", text: "load 1; ret"},
		{result: "[num]", text: "push; push; array 2 num; ret"},
		{taken: "num m.T", params: "bytes", result: "m.T", text: "load 1; switch m.T a b; a: build 0 m.T; ret; b: build 1 m.T; ret"},
		{name: "k", result: "num", text: "push; ret"},
		{taken: "num", result: "num", more: 1, text: "load 0; store 1; load 1; ret"},
	}
}

// nameOf is how the words of code call a symbol.
func nameOf(s object.Symbol) string {
	if s.Item.Name == "" {
		return "#" + s.Item.Type
	}
	return s.Module + "." + s.Item.Name
}

// assembled is an object of these functions, with symbols that they may mean.
func assembled(list []fn, symbols []object.Symbol) object.Object {
	o := object.Object{
		Module:  "m",
		Types:   ownTypes(),
		Texts:   texts(),
		Globals: []object.Global{{Name: "c", Type: "bytes", Fun: 0}, {Name: "d", Type: "[num]", Fun: 4}, {Name: "again", Type: "bytes", Fun: 0}},
		Exports: []string{"T", "c", "f", "g"},
		Symbols: symbols,
	}
	for n, f := range list {
		o.Funs = append(o.Funs, f.made())
		for _, r := range put(f.text).refs {
			k := slices.IndexFunc(symbols, func(s object.Symbol) bool { return nameOf(s) == r.name })
			if k < 0 {
				panic("no symbol " + r.name)
			}
			o.Relocs = append(o.Relocs, object.Reloc{Fun: n, At: r.at, Sym: k})
		}
	}
	return o
}

// scene is an ordinary object whose function 1 is the one that is tested.
func scene(tested fn) object.Object {
	tested.name = "f"
	return assembled(funs(tested), symbolsOf(object.Sign(tested.made())))
}

// plain is the scene with nothing wrong.
func plain() object.Object { return scene(fn{params: "num", result: "num", text: "load 0; ret"}) }

func told(o object.Object) string { return fmt.Sprintf("%+v", o) }

func toldCode(b []byte) string {
	l, why, at := code.Decode(b)
	return fmt.Sprintf("%x = %v, %v at %d", b, l, why, at)
}
