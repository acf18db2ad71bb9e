package code_test

import (
	"math"
	"slices"
	"strings"
	"testing"

	"hawser/api"
	"hawser/code"
)

// right is an instruction of that operation that stands at 0.
func right(op int) code.Inst {
	for _, c := range ones() {
		if c.inst.Op == op {
			return c.inst
		}
	}
	return code.Inst{}
}

// P13.1: Ops that are none.
func TestEncodeNoOp(t *testing.T) {
	for _, op := range noOps() {
		wantUnencoded(t, "no Op", []code.Inst{{Op: op}}, api.ErrForm)
	}
}

// P13.1: what is not asked and not zero, of each operation.
func TestEncodeNotAsked(t *testing.T) {
	asked := map[int]string{
		code.Push: "N", code.Literal: "Text", code.Load: "A", code.Store: "A", code.Jump: "To", code.Zero: "To", code.Do: "A", code.Array: "A B",
		code.Build: "A", code.Switch: "A To", code.Call: "", code.Global: "", code.Close: "A", code.Apply: "A", code.Ret: "",
	}
	for _, op := range allOps() {
		for _, c := range []struct {
			field string
			put   func(i *code.Inst)
		}{
			{"A", func(i *code.Inst) { i.A = 1 }},
			{"A", func(i *code.Inst) { i.A = -1 }},
			{"A", func(i *code.Inst) { i.A = 256 }},
			{"B", func(i *code.Inst) { i.B = 1 }},
			{"B", func(i *code.Inst) { i.B = -1 }},
			{"B", func(i *code.Inst) { i.B = math.MinInt }},
			{"N", func(i *code.Inst) { i.N = 1 }},
			{"N", func(i *code.Inst) { i.N = -1i }},
			{"N", func(i *code.Inst) { i.N = complex(math.NaN(), 0) }},
			{"N", func(i *code.Inst) { i.N = complex(0, math.Inf(1)) }},
			{"Text", func(i *code.Inst) { i.Text = "x" }},
			{"Text", func(i *code.Inst) { i.Text = "\x00" }},
			{"To", func(i *code.Inst) { i.To = append(i.To, 99) }},
			{"To", func(i *code.Inst) { i.To = append(i.To, 0, 0) }},
		} {
			if slices.Contains(strings.Fields(asked[op]), c.field) {
				continue
			}
			i := moved(right(op), 0)
			c.put(&i)
			wantUnencoded(t, c.field+" that is not asked", []code.Inst{i}, api.ErrForm)
		}
	}
}

// P13.1: what is asked and wrong.
func TestEncodeForm(t *testing.T) {
	many := make([]int, api.MaxCases+1)
	for k := range many {
		many[k] = 18
	}
	for _, c := range []struct {
		what string
		inst code.Inst
	}{
		{"half a number", code.Inst{Op: code.Push, N: 0.5}},
		{"half a second part", code.Inst{Op: code.Push, N: 1 - 0.5i}},
		{"a part above MaxPart", code.Inst{Op: code.Push, N: api.MaxPart + 1}},
		{"a second part above MaxPart", code.Inst{Op: code.Push, N: complex(0, api.MaxPart+1)}},
		{"a part below -MaxPart", code.Inst{Op: code.Push, N: -api.MaxPart - 1}},
		{"a second part below -MaxPart", code.Inst{Op: code.Push, N: complex(0, -api.MaxPart-1)}},
		{"no number", code.Inst{Op: code.Push, N: complex(math.NaN(), 0)}},
		{"no second part", code.Inst{Op: code.Push, N: complex(0, math.NaN())}},
		{"without end", code.Inst{Op: code.Push, N: complex(math.Inf(-1), 0)}},
		{"far too great", code.Inst{Op: code.Push, N: 1e300}},
		{"a text of MaxText + 1", code.Inst{Op: code.Literal, Text: strings.Repeat("x", api.MaxText+1)}},
		{"a text of 2^20", code.Inst{Op: code.Literal, Text: strings.Repeat("x", 1<<20)}},
		{"Array -1", code.Inst{Op: code.Array, A: -1}},
		{"Array 256", code.Inst{Op: code.Array, A: 256}},
		{"Array of -1", code.Inst{Op: code.Array, B: -1}},
		{"Array of 256", code.Inst{Op: code.Array, B: 256}},
		{"Array of the least number", code.Inst{Op: code.Array, B: math.MinInt}},
		{"Jump nowhere", code.Inst{Op: code.Jump}},
		{"Jump to two", code.Inst{Op: code.Jump, To: []int{3, 3}}},
		{"Zero nowhere", code.Inst{Op: code.Zero}},
		{"Zero to two", code.Inst{Op: code.Zero, To: []int{3, 3}}},
		{"Switch of none", code.Inst{Op: code.Switch}},
		{"Switch of none with one", code.Inst{Op: code.Switch, To: []int{6}}},
		{"Switch of one without", code.Inst{Op: code.Switch, A: 1}},
		{"Switch of one with two", code.Inst{Op: code.Switch, A: 1, To: []int{8, 8}}},
		{"Switch of two with one", code.Inst{Op: code.Switch, A: 2, To: []int{6}}},
		{"Switch of MaxCases + 1", code.Inst{Op: code.Switch, A: api.MaxCases + 1, To: many}},
		{"Switch of MaxCases with one more", code.Inst{Op: code.Switch, A: api.MaxCases, To: many}},
		{"Switch of -1", code.Inst{Op: code.Switch, A: -1}},
		{"Switch of 257 with one", code.Inst{Op: code.Switch, A: 257, To: []int{6}}},
		{"Switch of the greatest number", code.Inst{Op: code.Switch, A: math.MaxInt}},
		{"Switch of the least number", code.Inst{Op: code.Switch, A: math.MinInt}},
	} {
		wantUnencoded(t, c.what, []code.Inst{c.inst}, api.ErrForm)
	}
	for _, op := range []int{code.Load, code.Store, code.Do, code.Apply, code.Build, code.Close} {
		for _, a := range []int{-1, 256, 257, math.MaxInt, math.MinInt} {
			wantUnencoded(t, "A that is no byte", []code.Inst{{Op: op, A: a}}, api.ErrForm)
		}
	}
}

// P13.1: At and To.
func TestEncodeJump(t *testing.T) {
	for _, at := range []int{1, -1, 2, math.MaxInt, math.MinInt} {
		wantUnencoded(t, "At of the first", []code.Inst{{At: at, Op: code.Ret}}, api.ErrJump)
	}
	for _, c := range ones() {
		for _, by := range []int{-1, 1} {
			l := []code.Inst{c.inst, {At: len(c.bytes) + by, Op: code.Ret}}
			wantUnencoded(t, "At behind "+c.what, l, api.ErrJump)
		}
	}
	for _, c := range []struct {
		i    code.Inst
		size int
	}{
		{code.Inst{Op: code.Jump, To: []int{0}}, 3},
		{code.Inst{Op: code.Zero, To: []int{0}}, 3},
		{code.Inst{Op: code.Switch, A: 1, To: []int{0}}, 6},
		{code.Inst{Op: code.Switch, A: 6, To: []int{99, 99, 99, 99, 99, 0}}, 16},
		{code.Inst{Op: code.Switch, A: 6, To: []int{0, 99, 99, 99, 99, 99}}, 16},
	} {
		for _, to := range []int{c.size - 1, 0, -1, c.size - 65536, c.size + 65536, c.size + 65536 + 9, math.MaxInt, math.MinInt, math.MinInt + c.size} {
			i := moved(c.i, 0)
			i.To[slices.Index(i.To, 0)] = to
			wantUnencoded(t, "To", []code.Inst{i}, api.ErrJump)
			wantUnencoded(t, "To behind another", []code.Inst{{Op: code.Ret}, moved(i, 1)}, api.ErrJump)
		}
	}
	wantUnencoded(t, "back", []code.Inst{{Op: code.Ret}, {At: 1, Op: code.Jump, To: []int{0}}}, api.ErrJump)
	wantUnencoded(t, "to itself", []code.Inst{{Op: code.Ret}, {At: 1, Op: code.Jump, To: []int{1}}}, api.ErrJump)
}

// rets are so many of them.
func rets(n int) []code.Inst {
	l := make([]code.Inst, n)
	for k := range l {
		l[k] = code.Inst{At: k, Op: code.Ret}
	}
	return l
}

// P13.1, P13.2: MaxCode bytes, and one more.
func TestLong(t *testing.T) {
	full := strings.Repeat("\x0f", api.MaxCode)
	wantBoth(t, "MaxCode", rets(api.MaxCode), full)
	wantUnencoded(t, "MaxCode + 1", rets(api.MaxCode+1), api.ErrLong)
	wantUndecoded(t, "MaxCode + 1", full+"\x0f", api.ErrLong, 0)
	wantUnencoded(t, "far too many", rets(1<<18), api.ErrLong)

	jump := code.Inst{At: api.MaxCode - 3, Op: code.Jump, To: []int{api.MaxCode}}
	wantBoth(t, "MaxCode with a Jump at its end", append(rets(api.MaxCode-3), jump), full[:api.MaxCode-3]+"\x05\x00\x00")
	wantUnencoded(t, "a Jump one too far", append(rets(api.MaxCode-2), moved(jump, 1)), api.ErrLong)
	wantUnencoded(t, "a Jump that is all too far", append(rets(api.MaxCode), moved(jump, 3)), api.ErrLong)

	var texts []code.Inst
	for k := range 11 {
		texts = append(texts, code.Inst{At: k * 203, Op: code.Literal, Text: strings.Repeat("y", api.MaxText)})
	}
	wantUnencoded(t, "texts", texts, api.ErrLong)
	if b, why := code.Encode(texts[:10]); len(b) != 2030 || why != api.OK {
		t.Errorf("ten texts: %d bytes, %v", len(b), why)
	}
}

// P13.1: the first instruction that is refused tells, whatever those behind it are; ErrForm ahead of ErrJump of one; ErrLong behind all.
func TestEncodeOrder(t *testing.T) {
	form, jump, right := code.Inst{At: 1, Op: 99}, code.Inst{At: 7, Op: code.Ret}, code.Inst{Op: code.Ret}
	for _, c := range []struct {
		what string
		l    []code.Inst
		want api.Errno
	}{
		{"form, then jump", []code.Inst{right, form, jump}, api.ErrForm},
		{"jump, then form", []code.Inst{right, jump, form}, api.ErrJump},
		{"jump, then form behind others", []code.Inst{jump, right, right, form}, api.ErrJump},
		{"an Op that is none at a wrong place", []code.Inst{{At: 5, Op: 99}}, api.ErrForm},
		{"N at a wrong place", []code.Inst{{At: 5, Op: code.Push, N: 0.5}}, api.ErrForm},
		{"Text at a wrong place", []code.Inst{{At: 5, Op: code.Literal, Text: strings.Repeat("x", 201)}}, api.ErrForm},
		{"A at a wrong place", []code.Inst{{At: -1, Op: code.Load, A: 256}}, api.ErrForm},
		{"B at a wrong place", []code.Inst{{At: -1, Op: code.Array, B: 256}}, api.ErrForm},
		{"what is not asked at a wrong place", []code.Inst{{At: 5, Op: code.Ret, B: 1}}, api.ErrForm},
		{"too many To, which go nowhere", []code.Inst{{Op: code.Jump, To: []int{0, 0}}}, api.ErrForm},
		{"what is not asked, and To", []code.Inst{{Op: code.Jump, A: 1, To: []int{0}}}, api.ErrForm},
		{"a Switch's A, and To", []code.Inst{{Op: code.Switch, A: 2, To: []int{0}}}, api.ErrForm},
		{"To at a wrong place", []code.Inst{{At: 1, Op: code.Jump, To: []int{0}}}, api.ErrJump},
		{"form behind MaxCode", append(rets(api.MaxCode+5), code.Inst{At: api.MaxCode + 5}), api.ErrForm},
		{"jump behind MaxCode", append(rets(api.MaxCode+5), code.Inst{At: api.MaxCode, Op: code.Ret}), api.ErrJump},
		{"To behind MaxCode", append(rets(api.MaxCode+5), code.Inst{At: api.MaxCode + 5, Op: code.Jump, To: []int{0}}), api.ErrJump},
	} {
		wantUnencoded(t, c.what, c.l, c.want)
	}
}

// P13.2: each operation cut off at each byte, alone, behind each other one, and behind several.
func TestDecodeCutOff(t *testing.T) {
	for _, c := range ones() {
		for k := 1; k < len(c.bytes); k++ {
			wantUndecoded(t, c.what+" cut off", c.bytes[:k], api.ErrEnd, 0)
			for _, a := range ones() {
				wantUndecoded(t, c.what+" cut off behind "+a.what, a.bytes+c.bytes[:k], api.ErrEnd, len(a.bytes))
			}
			wantUndecoded(t, c.what+" cut off behind several", "\x0f\x05\x00\x00\x02\x01\x00\x0f"+c.bytes[:k], api.ErrEnd, 8)
		}
	}
}

// P13.2: what is wrong, at the instruction, not at the field.
func TestDecodeForm(t *testing.T) {
	cases := map[string]string{
		"an Op of 0":                           "\x00",
		"an Op of 16":                          "\x10",
		"an Op of 255":                         "\xff",
		"an Op that is none, others behind":    "\x10\x0f\x0f",
		"a first part of two writings":         "\x01\x80\x00\x00",
		"a second part of two writings":        "\x01\x00\x80\x00",
		"a first part of eleven bytes":         "\x01" + strings.Repeat("\x80", 10) + "\x01\x00",
		"a first part of 2^64":                 "\x01" + strings.Repeat("\x80", 9) + "\x02\x00",
		"a second part of 2^64":                "\x01\x00" + strings.Repeat("\x80", 9) + "\x02",
		"the greatest first part":              "\x01" + strings.Repeat("\xff", 9) + "\x01\x00",
		"the greatest second part":             "\x01\x00\xfe" + strings.Repeat("\xff", 8) + "\x01",
		"a first part of MaxPart + 1":          "\x01\x82\x80\x80\x01\x00",
		"a second part of MaxPart + 1":         "\x01\x00\x82\x80\x80\x01",
		"a first part of -MaxPart - 1":         "\x01\x81\x80\x80\x01\x00",
		"a second part of -MaxPart - 1":        "\x01\x00\x81\x80\x80\x01",
		"a length of MaxText + 1":              "\x02\xc9\x01" + strings.Repeat("x", 201),
		"a length of MaxText + 1, no text":     "\x02\xc9\x01",
		"a length of two writings":             "\x02\x80\x00",
		"a length of two writings, and a text": "\x02\x81\x00x",
		"a length of 2^64":                     "\x02" + strings.Repeat("\x80", 9) + "\x02",
		"a length of ten that go on":           "\x02" + strings.Repeat("\x80", 10),
		"the greatest length":                  "\x02" + strings.Repeat("\xff", 9) + "\x01",
		"Build with a reference":               "\x09\x01\x01\x00",
		"Build with a low reference":           "\x09\x01\x00\x01",
		"Switch with a reference":              "\x0a\x01\x00\x01\x00\x00",
		"Switch with a high reference":         "\x0a\x01\x80\x00\x00\x00",
		"Call with a reference":                "\x0b\x00\x01",
		"Call with a high reference":           "\x0b\x01\x00",
		"Global with a reference":              "\x0c\xff\xff",
		"Close with a reference":               "\x0d\x00\x00\x01",
		"Switch of none":                       "\x0a\x00\x00\x00",
		"Switch of MaxCases + 1":               "\x0a\x07\x00\x00" + strings.Repeat("\x00\x00", 7),
		"Switch of 255":                        "\x0a\xff\x00\x00" + strings.Repeat("\x00\x00", 255),
	}
	for what, b := range cases {
		wantUndecoded(t, what, b, api.ErrForm, 0)
		wantUndecoded(t, what+", others behind", b+"\x0f\x10", api.ErrForm, 0)
		wantUndecoded(t, what+" behind a Ret", "\x0f"+b, api.ErrForm, 1)
		wantUndecoded(t, what+" behind several", "\x02\x03abc\x05\x00\x00"+b, api.ErrForm, 8)
	}
}

// P13.2: field by field: the first field that is wrong or cut off tells; N behind both its parts.
func TestDecodeOrder(t *testing.T) {
	for _, c := range []struct {
		what, bytes string
		want        api.Errno
		at          int
	}{
		{"N that is not right, its second part cut off", "\x01\x82\x80\x80\x01", api.ErrEnd, 0},
		{"N that is not right, its second part cut within", "\x01\x82\x80\x80\x01\x80", api.ErrEnd, 0},
		{"a first part of two writings, the second cut off", "\x01\x80\x00", api.ErrForm, 0},
		{"a first part that is cut off within", "\x01\x80", api.ErrEnd, 0},
		{"N that is not right, its second part of two writings", "\x01\x82\x80\x80\x01\x80\x00", api.ErrForm, 0},
		{"half a reference that is not 0", "\x0b\x01", api.ErrEnd, 0},
		{"half a reference of a Build", "\x09\x01\x01", api.ErrEnd, 0},
		{"half a reference of a Switch", "\x0a\x01\x01", api.ErrEnd, 0},
		{"A of a Switch that is none such, the rest cut off", "\x0a\x07", api.ErrForm, 0},
		{"A of a Switch of 0, the rest cut off", "\x0a\x00", api.ErrForm, 0},
		{"A of a Switch that is none such, half a reference", "\x0a\x07\x01", api.ErrForm, 0},
		{"a reference of a Switch, the rest cut off", "\x0a\x02\x00\x01", api.ErrForm, 0},
		{"a reference of a Switch, the rest cut off within", "\x0a\x02\x01\x00\x00", api.ErrForm, 0},
		{"a Switch whose last way is cut off", "\x0a\x02\x00\x00\x00\x00\x00", api.ErrEnd, 0},
		{"a Switch whose ways are cut off", "\x0a\x02\x00\x00", api.ErrEnd, 0},
		{"B that is cut off", "\x08\x01", api.ErrEnd, 0},
		{"a text that is cut off, of MaxText", "\x02\xc8\x01xx", api.ErrEnd, 0},
		{"a text that is cut off, of MaxText + 1", "\x02\xc9\x01xx", api.ErrForm, 0},
		{"the first of two, of which the second is cut off", "\x0b\x00\x01\x05", api.ErrForm, 0},
		{"the first of two that is right", "\x0b\x00\x00\x05", api.ErrEnd, 3},
		{"cut off behind a text", "\x02\x02\x00\x10\x03", api.ErrEnd, 4},
	} {
		wantUndecoded(t, c.what, c.bytes, c.want, c.at)
	}
	wantUndecoded(t, "too many bytes of which none is right", strings.Repeat("\x00", api.MaxCode+1), api.ErrLong, 0)
	wantUndecoded(t, "too many bytes, the last cut off", strings.Repeat("\x0f", api.MaxCode)+"\x05", api.ErrLong, 0)
	wantUndecoded(t, "far too many bytes", strings.Repeat("\x0f", 1<<20), api.ErrLong, 0)
	wantUndecoded(t, "MaxCode bytes, the last wrong", strings.Repeat("\x0f", api.MaxCode-1)+"\x00", api.ErrForm, api.MaxCode-1)
	wantUndecoded(t, "MaxCode bytes, the last cut off", strings.Repeat("\x0f", api.MaxCode-1)+"\x05", api.ErrEnd, api.MaxCode-1)
}
