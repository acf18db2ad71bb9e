package lex_test

import (
	"bytes"
	"fmt"
	"math/rand"
	"regexp"
	"slices"
	"strconv"
	"strings"
	"testing"

	"hawser/api"
	"hawser/lex"
)

func wantTokens(t *testing.T, s string, want ...lex.Token) {
	t.Helper()
	got, why, at := lex.Split(s)
	if !slices.Equal(got, want) || why != api.OK || at != 0 {
		t.Errorf("Split(%.40q): %v, %v at %d, want %v", s, got, why, at, want)
	}
}

func wantRefusal(t *testing.T, s string, why api.Errno, at int) {
	t.Helper()
	got, gotWhy, gotAt := lex.Split(s)
	if len(got) != 0 || gotWhy != why || gotAt != at {
		t.Errorf("Split(%.40q): %d tokens, %v at %d, want %v at %d", s, len(got), gotWhy, gotAt, why, at)
	}
}

func open(at int) lex.Token { return lex.Token{Kind: lex.Open, At: at} }

func closing(at int) lex.Token { return lex.Token{Kind: lex.Close, At: at} }

func atom(at int, text string) lex.Token { return lex.Token{Kind: lex.Atom, At: at, Text: text} }

func quoted(at int, text string) lex.Token { return lex.Token{Kind: lex.Quoted, At: at, Text: text} }

func TestRuns(t *testing.T) {
	wantTokens(t, `(a "b\x41")`, open(0), atom(1, "a"), quoted(3, "bA"), closing(10))
	wantRefusal(t, `"a`, api.ErrEnd, 0)
	wantRefusal(t, `"\q"`, api.ErrForm, 1)
}

func TestExamples(t *testing.T) {
	wantTokens(t, "; a remark alone")
	wantTokens(t, `a"b"`, atom(0, "a"), quoted(1, "b"))
	if lex.Big("_") {
		t.Error("Big(_)")
	}
}

func TestKinds(t *testing.T) {
	if got := [...]int{lex.Open, lex.Close, lex.Atom, lex.Quoted}; got != [...]int{1, 2, 3, 4} {
		t.Errorf("kinds: %v", got)
	}
}

// P3.1: ordinary sources.
func TestSplit(t *testing.T) {
	wantTokens(t, "")
	wantTokens(t, "\t\n\r ")
	wantTokens(t, "()", open(0), closing(1))
	wantTokens(t, ")(", closing(0), open(1))
	wantTokens(t, "(())", open(0), open(1), closing(2), closing(3))
	wantTokens(t, "a", atom(0, "a"))
	wantTokens(t, "(fun f (x int) x)", open(0), atom(1, "fun"), atom(5, "f"), open(7), atom(8, "x"), atom(10, "int"), closing(13), atom(15, "x"), closing(16))
	wantTokens(t, `""`, quoted(0, ""))
	wantTokens(t, `"a""b"`, quoted(0, "a"), quoted(3, "b"))
	wantTokens(t, `"a b;(c)~"`, quoted(0, "a b;(c)~"))
	wantTokens(t, `1+2i -7`, atom(0, "1+2i"), atom(5, "-7"))
}

// P3.1: which of all bytes part, which end an Atom, and which are none, alone, ahead of an Atom, within one and behind it.
func TestBytesOutside(t *testing.T) {
	for c := range 256 {
		s := string([]byte{byte(c)})
		switch {
		case strings.Contains("\t\n\r ", s):
			wantTokens(t, s)
			wantTokens(t, s+"a"+s+"b"+s, atom(1, "a"), atom(3, "b"))
		case s == ";":
			wantTokens(t, s)
			wantTokens(t, "a"+s+"b", atom(0, "a"))
		case s == "(":
			wantTokens(t, "a"+s+"b", atom(0, "a"), open(1), atom(2, "b"))
		case s == ")":
			wantTokens(t, "a"+s+"b", atom(0, "a"), closing(1), atom(2, "b"))
		case s == `"`:
			wantRefusal(t, s, api.ErrEnd, 0)
			wantRefusal(t, "a"+s+"b", api.ErrEnd, 1)
		case 33 <= c && c <= 126:
			wantTokens(t, s, atom(0, s))
			wantTokens(t, "a"+s+"b", atom(0, "a"+s+"b"))
			wantTokens(t, s+s+" "+s, atom(0, s+s), atom(3, s))
		default:
			wantRefusal(t, s, api.ErrForm, 0)
			wantRefusal(t, "a"+s, api.ErrForm, 1)
			wantRefusal(t, "(a) "+s+"b", api.ErrForm, 4)
		}
	}
}

// P3.1: which of all bytes stand in a Quoted, and which \ and a byte mean something.
func TestBytesInside(t *testing.T) {
	meant := map[string]string{`"`: `"`, `\`: `\`, "n": "\n"}
	for c := range 256 {
		s := string([]byte{byte(c)})
		switch {
		case s == `"`:
			wantTokens(t, ` "b`+s, quoted(1, "b"))
		case s == `\`:
			wantRefusal(t, ` "b`+s+`c"`, api.ErrForm, 3)
		case 32 <= c && c <= 126:
			wantTokens(t, ` "b`+s+`c"`, quoted(1, "b"+s+"c"))
		default:
			wantRefusal(t, ` "b`+s+`c"`, api.ErrForm, 3)
			wantRefusal(t, `"`+s, api.ErrForm, 1)
		}
		if m, ok := meant[s]; ok {
			wantTokens(t, `"b\`+s+`c"`, quoted(0, "b"+m+"c"))
		} else if s != "x" {
			wantRefusal(t, `"b\`+s+`c"`, api.ErrForm, 2)
		}
	}
}

// P3.1: \x with each byte as its first and as its second digit.
func TestDigits(t *testing.T) {
	values := map[byte]byte{}
	for i := range 16 {
		values["0123456789abcdef"[i]] = byte(i)
	}
	for c := range 256 {
		first, second := []byte(`"\x?0"`), []byte(`"\xf?"`)
		first[3], second[4] = byte(c), byte(c)
		v, ok := values[byte(c)]
		if !ok {
			wantRefusal(t, string(first), api.ErrForm, 1)
			wantRefusal(t, string(second), api.ErrForm, 1)
			continue
		}
		wantTokens(t, string(first), quoted(0, string([]byte{16 * v})))
		wantTokens(t, string(second), quoted(0, string([]byte{0xf0 + v})))
	}
	for _, s := range []string{`\x/0`, `\x0/`, `\x:0`, `\x0:`, "\\x`0", "\\x0`", `\xg0`, `\x0g`, `\xA0`, `\x0F`, `\X00`} {
		wantRefusal(t, `"ab`+s+`"`, api.ErrForm, 3)
	}
	wantTokens(t, `"\x5c\x22\x0a\x7f\xff\x00"`, quoted(0, "\\\"\n\x7f\xff\x00"))
	wantTokens(t, `"\x411"`, quoted(0, "A1"))
	wantTokens(t, `"\\x41"`, quoted(0, `\x41`))
}

// P3.1: texts that end within a Quoted: a \ that is cut off is told at it, ahead of the lacking ".
func TestCutQuoted(t *testing.T) {
	for s, at := range map[string]int{`"\`: 1, `"\x`: 1, `"\x4`: 1, `"\x"`: 1, `"\x4"`: 1, `a "b\`: 4, `"\\\`: 3} {
		wantRefusal(t, s, api.ErrForm, at)
	}
	for s, at := range map[string]int{`"`: 0, `(a "b`: 3, `"\"`: 0, `"\\\"`: 0, `"\x41`: 0, `"a" "`: 4, `"a""`: 3, `"a";"` + "\n\"": 6} {
		wantRefusal(t, s, api.ErrEnd, at)
	}
}

// P3.1: nothing is looked at from ; up to 10 or the end, and 13 does not end it.
func TestRemarks(t *testing.T) {
	wantTokens(t, ";")
	wantTokens(t, ";\n")
	wantTokens(t, "; (\" \\ \x00\x7f\xff\xc3;\n b", atom(14, "b"))
	wantTokens(t, "a;b\nc", atom(0, "a"), atom(4, "c"))
	wantTokens(t, "a;b\rc", atom(0, "a"))
	wantTokens(t, "();\n;\n()", open(0), closing(1), open(6), closing(7))
	wantTokens(t, "\"a\";\"\n\"b;\"", quoted(0, "a"), quoted(6, "b;"))
	wantTokens(t, ";\n\na", atom(3, "a"))
	wantRefusal(t, ";\x01\n\x01", api.ErrForm, 3)
}

// P3.1: an Atom ends right ahead of whatever ends it, and begins right behind it.
func TestNeighbours(t *testing.T) {
	wantTokens(t, `a"b"c`, atom(0, "a"), quoted(1, "b"), atom(4, "c"))
	wantTokens(t, `ab(cd)ef`, atom(0, "ab"), open(2), atom(3, "cd"), closing(5), atom(6, "ef"))
	wantTokens(t, `("b")`, open(0), quoted(1, "b"), closing(4))
	wantTokens(t, "a\tb\nc\rd e", atom(0, "a"), atom(2, "b"), atom(4, "c"), atom(6, "d"), atom(8, "e"))
	wantTokens(t, `a\n[b]{c}`, atom(0, `a\n[b]{c}`))
}

// P3.1: MaxSource bytes of each kind, and one more, which is told ahead of all that is in it.
func TestSourceLimit(t *testing.T) {
	x := strings.Repeat("x", api.MaxSource)
	wantTokens(t, x, atom(0, x))
	wantTokens(t, strings.Repeat(" ", api.MaxSource))
	wantTokens(t, strings.Repeat(";", api.MaxSource))
	wantTokens(t, strings.Repeat(" ", api.MaxSource-1)+"(", open(api.MaxSource-1))
	if got, why, at := lex.Split(strings.Repeat(")", api.MaxSource)); len(got) != api.MaxSource || why != api.OK || at != 0 || got[api.MaxSource-1] != closing(api.MaxSource-1) {
		t.Errorf("MaxSource brackets: %d, %v at %d", len(got), why, at)
	}
	for _, c := range []string{"x", " ", ";", "(", `"`, "\x00", "\xff"} {
		wantRefusal(t, strings.Repeat(c, api.MaxSource+1), api.ErrLong, 0)
		wantRefusal(t, strings.Repeat(c, 3*api.MaxSource), api.ErrLong, 0)
		wantRefusal(t, " a"+strings.Repeat(c, api.MaxSource-1), api.ErrLong, 0)
	}
}

// P3.1: MaxText bytes of what a Quoted means, and one more, however many bytes stand there.
func TestTextLimit(t *testing.T) {
	for written, meant := range map[string]string{"a": "a", " ": " ", `\n`: "\n", `\\`: `\`, `\"`: `"`, `\x00`: "\x00", `\xff`: "\xff"} {
		most := strings.Repeat(written, api.MaxText)
		wantTokens(t, `"`+most+`"`, quoted(0, strings.Repeat(meant, api.MaxText)))
		wantTokens(t, `(`+`"`+most+`"a`, open(0), quoted(1, strings.Repeat(meant, api.MaxText)), atom(len(most)+3, "a"))
		wantRefusal(t, `"`+most+written+`"`, api.ErrLong, 0)
		wantRefusal(t, `a "`+most+written+written+`" b`, api.ErrLong, 2)
		wantRefusal(t, `"`+most+`" "`+most+written+`"`, api.ErrLong, len(most)+3)
	}
	x := strings.Repeat("x", api.MaxText+1)
	wantTokens(t, x, atom(0, x))
	wantTokens(t, ";"+x+"\n"+x, atom(api.MaxText+3, x))
	wantTokens(t, `"`+x[1:]+`""`+x[1:]+`"`, quoted(0, x[1:]), quoted(api.MaxText+2, x[1:]))
}

// P3.1, R8: the first of several refusals from the left; within one Quoted a wrong byte, then the lacking ", then its length.
func TestFirstRefusal(t *testing.T) {
	long := strings.Repeat("x", api.MaxText+1)
	for _, c := range []struct {
		s   string
		why api.Errno
		at  int
	}{
		{"\x01\x02", api.ErrForm, 0},
		{"a\x7f\"", api.ErrForm, 1},
		{`"\q" "`, api.ErrForm, 1},
		{`"a\q\r" "b`, api.ErrForm, 2},
		{"\"a\x01\\q", api.ErrForm, 2},
		{"\"a\\q\x01", api.ErrForm, 2},
		{"\"a\nb", api.ErrForm, 2},
		{`"` + long, api.ErrEnd, 0},
		{`(a "` + long, api.ErrEnd, 3},
		{`"` + long + "\x01", api.ErrForm, api.MaxText + 2},
		{`"` + long + `\q"`, api.ErrForm, api.MaxText + 2},
		{`"` + long + `\`, api.ErrForm, api.MaxText + 2},
		{`"` + long + "\"\x01", api.ErrLong, 0},
		{`"` + long + `" "\q"`, api.ErrLong, 0},
		{`"\q" "` + long + `"`, api.ErrForm, 1},
		{"\x80 \"" + long + `"`, api.ErrForm, 0},
		{`"a" "b" "`, api.ErrEnd, 8},
		{"é", api.ErrForm, 0},
		{"aé", api.ErrForm, 1},
		{`"é"`, api.ErrForm, 1},
	} {
		wantRefusal(t, c.s, c.why, c.at)
	}
}

// R2: what is answered is its own, its spare room too.
func TestSplitSharesNothing(t *testing.T) {
	const s = `(a "b" c)`
	first, _, _ := lex.Split(s)
	second, _, _ := lex.Split(s)
	for i := range first[:cap(first)] {
		first[:cap(first)][i] = lex.Token{Kind: -1, At: -1, Text: "z"}
	}
	want := []lex.Token{open(0), atom(1, "a"), quoted(3, "b"), atom(7, "c"), closing(8)}
	if !slices.Equal(second, want) {
		t.Errorf("after another answer was changed: %v", second)
	}
	wantTokens(t, s, want...)
}

// P3.2: each byte alone, and among others.
func TestQuote(t *testing.T) {
	for c := range 256 {
		b := string([]byte{byte(c)})
		want := fmt.Sprintf(`\x%02x`, c)
		switch {
		case b == `"` || b == `\`:
			want = `\` + b
		case b == "\n":
			want = `\n`
		case 32 <= c && c <= 126:
			want = b
		}
		if got := lex.Quote(b); got != `"`+want+`"` {
			t.Errorf("Quote(%q): %s, want %s", b, got, want)
		}
		if got := lex.Quote("a" + b + b + "1"); got != `"a`+want+want+`1"` {
			t.Errorf("Quote of a, %q twice, 1: %s", b, got)
		}
	}
	for b, want := range map[string]string{"": `""`, "a b": `"a b"`, "\"\\": `"\"\\"`, "\n\t\r": `"\n\x09\x0d"`, "é": `"\xc3\xa9"`, `\n`: `"\\n"`, "\x00\x1f\x7f\x80\xff": `"\x00\x1f\x7f\x80\xff"`} {
		if got := lex.Quote(b); got != want {
			t.Errorf("Quote(%q): %s, want %s", b, got, want)
		}
	}
	x := strings.Repeat("x", 3*api.MaxSource)
	if lex.Quote(x) != `"`+x+`"` {
		t.Error("Quote of more than a source's bytes")
	}
}

// P3.3: v is said of a Value, b of a Big, and a Name is one of both.
func TestNames(t *testing.T) {
	long := strings.Repeat("x", api.MaxName-1)
	for s, want := range map[string]string{
		"": "", "a": "v", "z": "v", "A": "b", "Z": "b", "_": "v", "__": "v", "_A": "v", "_9": "v", "aB9_": "v", "A_b9": "b",
		"0": "", "9": "", "0a": "", "9A": "", "a0": "v", "Z9": "b",
		"a-b": "", "a.b": "", "a b": "", " a": "", "a ": "", "a\n": "", "a\x00": "", "-": "",
		"é": "", "aé": "", "É": "", "\xff": "", "a\xff": "",
		"a" + long: "v", "B" + long: "b", "_" + long: "v", "a" + long + "x": "", "B" + long + "x": "", "_" + long + "_": "", "9" + long: "",
		strings.Repeat("a", api.MaxSource): "",
	} {
		wantName(t, s, want)
	}
}

// P3.3: each byte as the first of a name, and behind one of each kind.
func TestNameBytes(t *testing.T) {
	for c := range 256 {
		s := string([]byte{byte(c)})
		first, behind := "", false
		switch {
		case 'a' <= c && c <= 'z' || c == '_':
			first, behind = "v", true
		case 'A' <= c && c <= 'Z':
			first, behind = "b", true
		case '0' <= c && c <= '9':
			behind = true
		}
		wantName(t, s, first)
		wantName(t, s+"a", first)
		for begin, kind := range map[string]string{"a": "v", "_": "v", "A": "b"} {
			if !behind {
				kind = ""
			}
			wantName(t, begin+s, kind)
			wantName(t, begin+s+"a", kind)
		}
	}
}

func wantName(t *testing.T, s, want string) {
	t.Helper()
	got := ""
	if lex.Value(s) {
		got += "v"
	}
	if lex.Big(s) {
		got += "b"
	}
	if got != want || lex.Name(s) != (want != "") {
		t.Errorf("%.40q: Name %v, Value and Big %q, want %q", s, lex.Name(s), got, want)
	}
}

// P3.4: each byte, and any bytes, up to MaxText.
func TestSplitOfQuote(t *testing.T) {
	wantTokens(t, lex.Quote(""), quoted(0, ""))
	for c := range 256 {
		for _, n := range []int{1, 2, api.MaxText} {
			b := string(bytes.Repeat([]byte{byte(c)}, n))
			wantTokens(t, lex.Quote(b), quoted(0, b))
		}
		wantRefusal(t, lex.Quote(string(bytes.Repeat([]byte{byte(c)}, api.MaxText+1))), api.ErrLong, 0)
	}
	r := rand.New(rand.NewSource(3))
	for range 2000 {
		b := make([]byte, r.Intn(api.MaxText+1))
		r.Read(b)
		wantTokens(t, lex.Quote(string(b)), quoted(0, string(b)))
	}
}

var (
	skipped     = regexp.MustCompile(`^(?s:[\t\n\r ]|;[^\n]*)+`)
	wholeAtom   = regexp.MustCompile(`^[!#-':<-~*-/0-9]+`)
	wholeQuoted = regexp.MustCompile(`^"(?:[ !#-\[\]-~]|\\["\\n]|\\x[0-9a-f]{2})*`)
	escapes     = regexp.MustCompile(`\\(?:x..|.)`)
)

func meaningOf(escape string) string {
	switch escape[1] {
	case 'n':
		return "\n"
	case 'x':
		n, _ := strconv.ParseUint(escape[2:], 16, 8)
		return string([]byte{byte(n)})
	}
	return escape[1:]
}

// splitByPatterns is P3.1 said by patterns of what stands at a place, on texts whose bytes above 126 were made one byte that no pattern takes.
func splitByPatterns(s string) (list []lex.Token, why api.Errno, place int) {
	if len(s) > api.MaxSource {
		return nil, api.ErrLong, 0
	}
	ascii := []byte(s)
	for i, c := range ascii {
		if c > 126 {
			ascii[i] = 1
		}
	}
	for at := 0; at < len(s); {
		rest := string(ascii[at:])
		if n := len(skipped.FindString(rest)); n > 0 {
			at += n
		} else if word := wholeAtom.FindString(rest); word != "" {
			list = append(list, atom(at, word))
			at += len(word)
		} else if rest[0] == '(' || rest[0] == ')' {
			list = append(list, lex.Token{Kind: map[byte]int{'(': lex.Open, ')': lex.Close}[rest[0]], At: at})
			at++
		} else if word := wholeQuoted.FindString(rest); word == "" {
			return nil, api.ErrForm, at
		} else if word == rest {
			return nil, api.ErrEnd, at
		} else if rest[len(word)] != '"' {
			return nil, api.ErrForm, at + len(word)
		} else if text := escapes.ReplaceAllStringFunc(word[1:], meaningOf); len(text) > api.MaxText {
			return nil, api.ErrLong, at
		} else {
			list = append(list, quoted(at, text))
			at += len(word) + 1
		}
	}
	return list, api.OK, 0
}

func wantAsByPatterns(t *testing.T, s string) {
	t.Helper()
	got, why, at := lex.Split(s)
	want, wantWhy, wantAt := splitByPatterns(s)
	if !slices.Equal(got, want) || why != wantWhy || at != wantAt {
		t.Errorf("Split(%q): %v, %v at %d, want %v, %v at %d", s, got, why, at, want, wantWhy, wantAt)
	}
}

// P3.1 of all texts of a few bytes that matter, and of many longer ones.
func TestSplitAgainstPatterns(t *testing.T) {
	const few = "a(\"\\nx4;\n \x01"
	for n := range 6 {
		total := 1
		for range n {
			total *= len(few)
		}
		for i := range total {
			s := make([]byte, n)
			for k := range s {
				s[k] = few[i%len(few)]
				i /= len(few)
			}
			wantAsByPatterns(t, string(s))
		}
	}
	pieces := []string{"(", ")", "a", "B9_", `"`, `"b"`, `\"`, `\\`, `\n`, `\x4f`, `\xff`, `\x`, `\q`, ";", "\n", " ", "\t", "\r", "\x00", "\x7f", "é", "~", "!", strings.Repeat("y", 66)}
	r := rand.New(rand.NewSource(4))
	for range 20000 {
		var s strings.Builder
		for range r.Intn(30) {
			s.WriteString(pieces[r.Intn(len(pieces))])
		}
		wantAsByPatterns(t, s.String())
		wantAsByPatterns(t, `"`+s.String()+`"`)
	}
}

func FuzzSplit(f *testing.F) {
	for _, s := range []string{"", `(a "b\x41")`, `"a`, `"\q"`, "; a\n(b)", "a\x00", `"\`, `"` + strings.Repeat("x", api.MaxText+1) + `"`} {
		f.Add(s)
	}
	f.Fuzz(wantAsByPatterns)
}

func FuzzQuote(f *testing.F) {
	f.Add("")
	f.Add("a\"\\\n\x00\xff")
	f.Fuzz(func(t *testing.T, b string) {
		if len(b) <= api.MaxText {
			wantTokens(t, lex.Quote(b), quoted(0, b))
		}
	})
}
