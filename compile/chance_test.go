package compile_test

import (
	"bytes"
	"math/rand"
	"slices"
	"strings"
	"testing"

	"hawser/api"
	"hawser/compile"
	"hawser/iface"
	"hawser/lex"
	"hawser/lower"
	"hawser/parse"
	"hawser/sema"
	"hawser/tree"
)

// wantSourceByLayers: Source answers what the layers beneath do, one behind the other.
func wantSourceByLayers(t testing.TB, source string, ifaces [][]byte) api.Errno {
	t.Helper()
	wantNameByLayers(t, source)
	m, why, at := parse.Module(source)
	if why != api.OK {
		wantRefused(t, source, ifaces, why, at, "")
		return why
	}
	var l []api.Iface
	for k, b := range ifaces {
		i, why, _ := iface.Decode(b)
		if why != api.OK {
			wantRefused(t, source, ifaces, why, k, "")
			return why
		}
		l = append(l, i)
	}
	why, at, name := sema.Module(m, l)
	if why != api.OK {
		wantRefused(t, source, ifaces, why, at, name)
		return why
	}
	if _, why = lower.Module(m, l); why != api.OK {
		wantRefused(t, source, ifaces, why, 0, "")
		return why
	}
	wantMade(t, source, ifaces)
	return api.OK
}

func wantNameByLayers(t testing.TB, source string) {
	t.Helper()
	want := ""
	tokens, _, _ := lex.Split(source)
	if _, why, _ := tree.Parse(source); why == api.OK && len(tokens) > 3 && tokens[0].Kind == lex.Open && tokens[1].Kind == lex.Atom && tokens[1].Text == "module" && tokens[2].Kind == lex.Atom && lex.Value(tokens[2].Text) {
		want = tokens[2].Text
	}
	wantName(t, source, want)
}

type chance struct{ *rand.Rand }

func (c chance) of(l ...string) string { return l[c.Intn(len(l))] }

// hurtSource is a source with some of its signs turned, put in, left out, or changed for another.
func (c chance) hurtSource(source string) string {
	tokens, why, _ := lex.Split(source)
	if why != api.OK {
		return source
	}
	var l []string
	for _, token := range tokens {
		switch token.Kind {
		case lex.Open:
			l = append(l, "(")
		case lex.Close:
			l = append(l, ")")
		case lex.Quoted:
			l = append(l, lex.Quote(token.Text))
		default:
			l = append(l, token.Text)
		}
	}
	for range c.Intn(3) {
		k, other := c.Intn(len(l)), c.Intn(len(l))
		switch c.Intn(8) {
		case 0:
			l = slices.Delete(l, k, k+1)
		case 1:
			l = slices.Insert(l, k, c.of("(", ")", "x", "\"\"", "1"))
		case 2:
			l[k] = c.of("num", "bytes", "T", "(type", "n.T")
		default: // a name or a number that stands elsewhere
			if l[k] != "(" && l[k] != ")" && l[other] != "(" && l[other] != ")" {
				l[k] = l[other]
			}
		}
		if len(l) == 0 {
			return ""
		}
	}
	return strings.Join(l, c.of(" ", " ", "\n", " ;x\n"))
}

// hurtBytes are bytes of which one may be turned.
func (c chance) hurtBytes(b []byte) []byte {
	b = bytes.Clone(b)
	if len(b) > 0 && c.Intn(4) == 0 {
		b[c.Intn(len(b))] += byte(c.Intn(3) - 1)
	}
	return b
}

func (c chance) ifaces() [][]byte {
	l := others()
	c.Shuffle(len(l), func(a, b int) { l[a], l[b] = l[b], l[a] })
	if c.Intn(4) > 0 {
		slices.SortStableFunc(l, func(a, b []byte) int { return len(b) - len(a) }) // n with all that is imported ahead of the other
	}
	if c.Intn(6) == 0 {
		l = l[:c.Intn(len(l))]
	}
	for k := range l {
		if c.Intn(8) == 0 {
			l[k] = c.hurtBytes(l[k])
		}
	}
	return l
}

// P17.1 to P17.3: sources, interfaces and objects by chance are taken as the layers beneath take them; what is made is let by.
func TestByChance(t *testing.T) {
	t.Parallel()
	sources := slices.Collect(func(yield func(string) bool) {
		for source := range ordinaries() {
			if !yield(source) {
				return
			}
		}
	})
	slices.Sort(sources)
	for _, one := range slices.Concat(untyped(), unread()[20:]) {
		sources = append(sources, one.source())
	}
	seen, checked := map[api.Errno]int{}, map[api.Errno]int{}
	c := chance{rand.New(rand.NewSource(17))}
	for range 8000 {
		source, ifaces := c.hurtSource(c.of(sources...)), c.ifaces()
		why := wantSourceByLayers(t, source, ifaces)
		seen[why]++
		if why == api.OK {
			b := c.hurtBytes(compile.Source(source, ifaces).Object)
			checked[wantCheckedByLayers(t, b, c.ifaces())]++
		}
	}
	for _, why := range []api.Errno{api.OK, api.ErrEnd, api.ErrTail, api.ErrForm, api.ErrName, api.ErrTaken, api.ErrNone, api.ErrType, api.ErrCover, api.ErrCount} {
		if seen[why] < 5 {
			t.Errorf("few sources are %v: %v", why, seen)
		}
	}
	if seen[api.OK] < 1000 || checked[api.OK] < 300 || checked[api.ErrNone] < 10 || checked[api.ErrSignature] < 5 {
		t.Errorf("sources %v, objects %v", seen, checked)
	}
}

// FuzzSource: any text, and any bytes for interfaces, of which one is a module's that it may import.
func FuzzSource(f *testing.F) {
	for source := range ordinaries() {
		f.Add(source, others()[0], others()[1])
	}
	for _, one := range slices.Concat(unread(), untyped()) {
		f.Add(one.source(), others()[0], others()[2])
	}
	for _, one := range much() {
		f.Add(within(one.marked), []byte{1, 'n', 0}, others()[3])
	}
	f.Fuzz(func(t *testing.T, source string, first, second []byte) {
		wantSourceByLayers(t, source, [][]byte{first, second})
		wantSourceByLayers(t, source, append(others(), second, first))
	})
}

// FuzzCheck: any bytes for an object and for interfaces.
func FuzzCheck(f *testing.F) {
	for source := range ordinaries() {
		f.Add(compile.Source(source, others()).Object, others()[0], others()[1])
	}
	for _, one := range hurts(f) {
		f.Add(one.b, others()[0], others()[1])
	}
	f.Fuzz(func(t *testing.T, b, first, second []byte) {
		wantCheckedByLayers(t, b, [][]byte{first, second})
		wantCheckedByLayers(t, b, others())
	})
}
