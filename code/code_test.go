package code_test

import (
	"fmt"
	"math"
	"slices"
	"strings"
	"testing"

	"hawser/api"
	"hawser/code"
)

// told writes a list so that nil and empty lists are told alike.
func told(l []code.Inst) string {
	var s strings.Builder
	for _, i := range l {
		fmt.Fprintf(&s, "{%d: %d %d %d %v %q %v}", i.At, i.Op, i.A, i.B, i.N, i.Text, append([]int{}, i.To...))
	}
	return s.String()
}

func wantEncoded(t *testing.T, what string, l []code.Inst, want string) {
	t.Helper()
	if b, why := code.Encode(l); string(b) != want || why != api.OK {
		t.Errorf("Encode, %s: % x, %v, want % x", what, b, why, want)
	}
}

func wantUnencoded(t *testing.T, what string, l []code.Inst, want api.Errno) {
	t.Helper()
	if b, why := code.Encode(l); len(b) != 0 || why != want {
		t.Errorf("Encode, %s: % x, %v, want %v", what, b, why, want)
	}
}

func wantDecoded(t *testing.T, what, b string, want []code.Inst) {
	t.Helper()
	l, why, at := code.Decode([]byte(b))
	if told(l) != told(want) || why != api.OK || at != 0 {
		t.Errorf("Decode, %s: %s, %v at %d, want %s", what, told(l), why, at, told(want))
	}
}

func wantUndecoded(t *testing.T, what, b string, want api.Errno, place int) {
	t.Helper()
	if l, why, at := code.Decode([]byte(b)); len(l) != 0 || why != want || at != place {
		t.Errorf("Decode, %s: %s, %v at %d, want %v at %d", what, told(l), why, at, want, place)
	}
}

// wantBoth: P13.4, the list and the bytes are one another's.
func wantBoth(t *testing.T, what string, l []code.Inst, b string) {
	t.Helper()
	wantEncoded(t, what, l, b)
	wantDecoded(t, what, b, l)
}

func TestRuns(t *testing.T) {
	wantEncoded(t, "Push 3-1i, Ret", []code.Inst{{Op: code.Push, N: 3 - 1i}, {At: 3, Op: code.Ret}}, "\x01\x06\x01\x0f")
	wantDecoded(t, "05 00 00", "\x05\x00\x00", []code.Inst{{Op: code.Jump, To: []int{3}}})
	wantUndecoded(t, "05", "\x05", api.ErrEnd, 0)
}

func TestExamples(t *testing.T) {
	wantDecoded(t, "nothing", "", nil)
	if got := code.Refs([]code.Inst{{Op: code.Call}}); !slices.Equal(got, []int{1}) {
		t.Errorf("Refs of a Call at 0: %v", got)
	}
	wantUndecoded(t, "a byte 0", "\x00", api.ErrForm, 0)
}

// one is an instruction at 0, by itself.
type one struct {
	what  string
	inst  code.Inst
	bytes string
}

// ones are of each operation, with the edges of each of its fields.
func ones() []one {
	long := strings.Repeat("x", api.MaxText)
	return []one{
		{"Push 0", code.Inst{Op: code.Push}, "\x01\x00\x00"},
		{"Push 5", code.Inst{Op: code.Push, N: 5}, "\x01\x0a\x00"},
		{"Push -5i", code.Inst{Op: code.Push, N: -5i}, "\x01\x00\x09"},
		{"Push of two bytes each", code.Inst{Op: code.Push, N: 64 - 65i}, "\x01\x80\x01\x81\x01"},
		{"Push of the greatest parts", code.Inst{Op: code.Push, N: complex(api.MaxPart, -api.MaxPart)}, "\x01\x80\x80\x80\x01\xff\xff\x7f"},
		{"Push of the least parts", code.Inst{Op: code.Push, N: complex(-api.MaxPart, api.MaxPart)}, "\x01\xff\xff\x7f\x80\x80\x80\x01"},
		{"Literal of nothing", code.Inst{Op: code.Literal}, "\x02\x00"},
		{"Literal", code.Inst{Op: code.Literal, Text: "ab"}, "\x02\x02ab"},
		{"Literal of any bytes", code.Inst{Op: code.Literal, Text: "\x00\xff\x0f"}, "\x02\x03\x00\xff\x0f"},
		{"Literal of a length of two bytes", code.Inst{Op: code.Literal, Text: long[:128]}, "\x02\x80\x01" + long[:128]},
		{"Literal of MaxText", code.Inst{Op: code.Literal, Text: long}, "\x02\xc8\x01" + long},
		{"Load 0", code.Inst{Op: code.Load}, "\x03\x00"},
		{"Load 255", code.Inst{Op: code.Load, A: 255}, "\x03\xff"},
		{"Store 0", code.Inst{Op: code.Store}, "\x04\x00"},
		{"Store 255", code.Inst{Op: code.Store, A: 255}, "\x04\xff"},
		{"Jump of 0", code.Inst{Op: code.Jump, To: []int{3}}, "\x05\x00\x00"},
		{"Jump of 255", code.Inst{Op: code.Jump, To: []int{3 + 255}}, "\x05\x00\xff"},
		{"Jump of 256", code.Inst{Op: code.Jump, To: []int{3 + 256}}, "\x05\x01\x00"},
		{"Jump of 65535", code.Inst{Op: code.Jump, To: []int{3 + 65535}}, "\x05\xff\xff"},
		{"Zero of 0", code.Inst{Op: code.Zero, To: []int{3}}, "\x06\x00\x00"},
		{"Zero of 0x1234", code.Inst{Op: code.Zero, To: []int{3 + 0x1234}}, "\x06\x12\x34"},
		{"Zero of 65535", code.Inst{Op: code.Zero, To: []int{3 + 65535}}, "\x06\xff\xff"},
		{"Do 0", code.Inst{Op: code.Do}, "\x07\x00"},
		{"Do 12", code.Inst{Op: code.Do, A: 12}, "\x07\x0c"},
		{"Do of no operation", code.Inst{Op: code.Do, A: 255}, "\x07\xff"},
		{"Array 0 of 0", code.Inst{Op: code.Array}, "\x08\x00\x00"},
		{"Array 2 of 3", code.Inst{Op: code.Array, A: 2, B: 3}, "\x08\x02\x03"},
		{"Array 255 of 0", code.Inst{Op: code.Array, A: 255}, "\x08\xff\x00"},
		{"Array 0 of 255", code.Inst{Op: code.Array, B: 255}, "\x08\x00\xff"},
		{"Build 0", code.Inst{Op: code.Build}, "\x09\x00\x00\x00"},
		{"Build 255", code.Inst{Op: code.Build, A: 255}, "\x09\xff\x00\x00"},
		{"Switch of 1", code.Inst{Op: code.Switch, A: 1, To: []int{6}}, "\x0a\x01\x00\x00\x00\x00"},
		{"Switch of 2", code.Inst{Op: code.Switch, A: 2, To: []int{8 + 65535, 8}}, "\x0a\x02\x00\x00\xff\xff\x00\x00"},
		{"Switch of MaxCases", code.Inst{Op: code.Switch, A: 6, To: []int{21, 20, 19, 18, 17, 16 + 256}}, "\x0a\x06\x00\x00\x00\x05\x00\x04\x00\x03\x00\x02\x00\x01\x01\x00"},
		{"Call", code.Inst{Op: code.Call}, "\x0b\x00\x00"},
		{"Global", code.Inst{Op: code.Global}, "\x0c\x00\x00"},
		{"Close 0", code.Inst{Op: code.Close}, "\x0d\x00\x00\x00"},
		{"Close 255", code.Inst{Op: code.Close, A: 255}, "\x0d\xff\x00\x00"},
		{"Apply 0", code.Inst{Op: code.Apply}, "\x0e\x00"},
		{"Apply 255", code.Inst{Op: code.Apply, A: 255}, "\x0e\xff"},
		{"Ret", code.Inst{Op: code.Ret}, "\x0f"},
	}
}

// P13.1, P13.2 and P13.4 of each operation alone.
func TestEachAlone(t *testing.T) {
	for _, c := range ones() {
		wantBoth(t, c.what, []code.Inst{c.inst}, c.bytes)
	}
}

// moved is an instruction that much further on, with where it goes.
func moved(i code.Inst, by int) code.Inst {
	i.At += by
	i.To = slices.Clone(i.To)
	for k := range i.To {
		i.To[k] += by
	}
	return i
}

// P13.4 of each operation behind each other one: places count from where an instruction stands.
func TestEachBehindEach(t *testing.T) {
	for _, a := range ones() {
		for _, b := range ones() {
			l := []code.Inst{a.inst, moved(b.inst, len(a.bytes)), {At: len(a.bytes) + len(b.bytes), Op: code.Ret}}
			wantBoth(t, a.what+", "+b.what, l, a.bytes+b.bytes+"\x0f")
		}
	}
}

// P13.4 of a list of all, as often as MaxCode has room for.
func TestAllInOneList(t *testing.T) {
	var l []code.Inst
	b := ""
	for range 2 {
		for _, c := range ones() {
			l = append(l, moved(c.inst, len(b)))
			b += c.bytes
		}
	}
	if len(b) > api.MaxCode {
		t.Fatalf("%d bytes", len(b))
	}
	wantBoth(t, "all", l, b)
}

func TestJumpsOverSeveral(t *testing.T) {
	wantBoth(t, "a choice", []code.Inst{
		{Op: code.Load, A: 0},
		{At: 2, Op: code.Zero, To: []int{11}},
		{At: 5, Op: code.Push, N: 1},
		{At: 8, Op: code.Jump, To: []int{14}},
		{At: 11, Op: code.Push, N: 2},
		{At: 14, Op: code.Ret},
	}, "\x03\x00\x06\x00\x06\x01\x02\x00\x05\x00\x03\x01\x04\x00\x0f")
	wantBoth(t, "a switch", []code.Inst{
		{Op: code.Load, A: 1},
		{At: 2, Op: code.Switch, A: 3, To: []int{15, 12, 15}},
		{At: 12, Op: code.Jump, To: []int{17}},
		{At: 15, Op: code.Store, A: 2},
		{At: 17, Op: code.Literal, Text: "end"},
		{At: 22, Op: code.Ret},
	}, "\x03\x01\x0a\x03\x00\x00\x00\x03\x00\x00\x00\x03\x05\x00\x02\x04\x02\x02\x03end\x0f")
	wantBoth(t, "into an instruction and past the end", []code.Inst{
		{Op: code.Jump, To: []int{4}},
		{At: 3, Op: code.Zero, To: []int{9999}},
	}, "\x05\x00\x01\x06\x27\x09")
}

func TestNothing(t *testing.T) {
	for _, l := range [][]code.Inst{nil, {}, make([]code.Inst, 0, 3)} {
		wantEncoded(t, "no instruction", l, "")
	}
	for _, b := range [][]byte{nil, {}, make([]byte, 0, 3)} {
		if l, why, at := code.Decode(b); len(l) != 0 || why != api.OK || at != 0 {
			t.Errorf("Decode of no byte: %s, %v at %d", told(l), why, at)
		}
	}
	for _, l := range [][]code.Inst{nil, {}, {{Op: code.Ret}}} {
		if got := code.Refs(l); len(got) != 0 {
			t.Errorf("Refs(%s): %v", told(l), got)
		}
	}
}

// R4: an empty list is as none.
func TestEmptyTo(t *testing.T) {
	wantEncoded(t, "empty To", []code.Inst{{Op: code.Ret, To: []int{}}}, "\x0f")
	wantUnencoded(t, "empty To of a Jump", []code.Inst{{Op: code.Jump, To: []int{}}}, api.ErrForm)
	wantUnencoded(t, "empty To of a Switch", []code.Inst{{Op: code.Switch, To: []int{}}}, api.ErrForm)
}

// A -0 is 0, as num has it, where N is asked and where it is not.
func TestMinusZero(t *testing.T) {
	minus := math.Copysign(0, -1)
	wantEncoded(t, "Push -0", []code.Inst{{Op: code.Push, N: complex(minus, minus)}}, "\x01\x00\x00")
	wantEncoded(t, "Ret with -0", []code.Inst{{Op: code.Ret, N: complex(minus, 0)}}, "\x0f")
	l, _, _ := code.Decode([]byte("\x01\x00\x00"))
	if n := l[0].N; math.Signbit(real(n)) || math.Signbit(imag(n)) {
		t.Errorf("Decode of 0: %v", n)
	}
}

// P13.3, of each operation and of none.
func TestTakes(t *testing.T) {
	want := map[int]int{code.Build: 2, code.Switch: 2, code.Call: 1, code.Global: 1, code.Close: 2}
	for _, op := range append(noOps(), allOps()...) {
		if n, ok := code.Takes(op); n != want[op] || ok != (want[op] > 0) {
			t.Errorf("Takes(%d): %d, %v, want %d", op, n, ok, want[op])
		}
	}
}

func allOps() (l []int) {
	for op := code.Push; op <= code.Ret; op++ {
		l = append(l, op)
	}
	return l
}

func noOps() []int {
	return []int{0, -1, -11, 16, 17, 255, 256, 256 + code.Ret, 256 + code.Call, math.MaxInt, math.MinInt, math.MinInt + code.Call}
}

// P13.3: Takes tells where the noughts of a reference stand.
func TestReferencesAreWrittenWhereTakesTells(t *testing.T) {
	for _, c := range ones() {
		ahead, ok := code.Takes(c.inst.Op)
		if !ok {
			continue
		}
		for k := range 2 {
			b := []byte(c.bytes)
			b[ahead+k] = 1
			wantUndecoded(t, c.what+" with a reference", string(b), api.ErrForm, 0)
		}
	}
}

func TestRefs(t *testing.T) {
	for _, c := range []struct {
		what string
		l    []code.Inst
		want []int
	}{
		{"each that has one", []code.Inst{{Op: code.Build}, {At: 4, Op: code.Switch, A: 1, To: []int{10}}, {At: 10, Op: code.Call}, {At: 13, Op: code.Global}, {At: 16, Op: code.Close}}, []int{2, 6, 11, 14, 18}},
		{"others between them", []code.Inst{{Op: code.Ret}, {At: 1, Op: code.Call}, {At: 4, Op: code.Push}, {At: 7, Op: code.Close, A: 3}, {At: 11, Op: code.Apply}}, []int{2, 9}},
		{"none that has one", []code.Inst{{Op: code.Push}, {At: 3, Op: code.Literal}, {At: 5, Op: code.Load}, {At: 7, Op: code.Store}, {At: 9, Op: code.Jump, To: []int{12}}, {At: 12, Op: code.Zero, To: []int{15}}, {At: 15, Op: code.Do}, {At: 17, Op: code.Array}, {At: 20, Op: code.Apply}, {At: 22, Op: code.Ret}}, nil},
		{"of a list that is no code: by At and Op alone", []code.Inst{{At: 9, Op: code.Call, A: 300, Text: "x"}, {At: -7, Op: code.Switch}, {At: 9, Op: code.Call}, {Op: 99}, {Op: -1}}, []int{10, -5, 10}},
	} {
		if got := code.Refs(c.l); !slices.Equal(got, c.want) {
			t.Errorf("Refs, %s: %v, want %v", c.what, got, c.want)
		}
	}
	if got := code.Refs([]code.Inst{{At: math.MaxInt, Op: code.Call}}); len(got) != 1 {
		t.Errorf("Refs at the greatest number: %v", got)
	}
}
