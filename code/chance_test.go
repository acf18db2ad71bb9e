package code_test

import (
	"math"
	"math/rand"
	"slices"
	"strings"
	"testing"

	"hawser/api"
	"hawser/code"
)

// chance makes code by chance.
type chance struct{ *rand.Rand }

func (c chance) part() float64 {
	return float64(c.of(0, 1, -1, 63, 64, -64, -65, api.MaxPart, -api.MaxPart, c.Intn(1<<21+1)-1<<20))
}

func (c chance) of(l ...int) int { return l[c.Intn(len(l))] }

// inst is a right one that stands at at, and where it ends.
func (c chance) inst(at int) (code.Inst, int) {
	i := code.Inst{At: at, Op: code.Push + c.Intn(code.Ret)}
	a, count := c.of(0, 1, 255, c.Intn(256)), 1
	size := 2
	switch i.Op {
	case code.Push:
		i.N = complex(c.part(), c.part())
		size = 1 + len(modelSigned(real(i.N))) + len(modelSigned(imag(i.N)))
	case code.Literal:
		i.Text = strings.Repeat(string(rune(c.Intn(128))), c.of(0, 1, 3, 127, 128, api.MaxText))
		size += len(i.Text)
		if len(i.Text) > 127 {
			size++
		}
	case code.Load, code.Store, code.Do, code.Apply:
		i.A = a
	case code.Array:
		i.A, i.B, size = a, c.Intn(256), 3
	case code.Build, code.Close:
		i.A, size = a, 4
	case code.Switch:
		count = 1 + c.Intn(6)
		i.A, size = count, 4+2*count
	case code.Jump, code.Zero, code.Call, code.Global:
		size = 3
	case code.Ret:
		size = 1
	}
	if i.Op == code.Jump || i.Op == code.Zero || i.Op == code.Switch {
		for range count {
			i.To = append(i.To, at+size+c.of(0, 1, 255, 256, 65535, c.Intn(65536)))
		}
	}
	return i, at + size
}

func (c chance) list(count int) (l []code.Inst, end int) {
	for range count {
		var i code.Inst
		i, end = c.inst(end)
		l = append(l, i)
	}
	return l, end
}

// hurt makes one field of an instruction another one, which may be right as well.
func (c chance) hurt(i *code.Inst) {
	n := c.of(0, 1, -1, 2, 6, 7, 255, 256, c.Intn(300), math.MaxInt, math.MinInt)
	switch c.Intn(8) {
	case 0:
		i.At = n
	case 1:
		i.Op = n
	case 2:
		i.A = n
	case 3:
		i.B = n
	case 4:
		i.N = complex(float64(n), c.part()) / complex(float64(c.of(1, 2)), 0)
	case 5:
		i.Text += strings.Repeat("x", c.of(1, 73, 200, 201))
	case 6:
		i.To = append(i.To, n)
	case 7:
		if len(i.To) > 0 {
			i.To[c.Intn(len(i.To))] += c.of(-1, 1, -65536, 65536, n)
		}
	}
}

func wantAsModelEncodes(t *testing.T, l []code.Inst) ([]byte, api.Errno) {
	t.Helper()
	b, why := code.Encode(l)
	if want, wantWhy := modelEncode(l); string(b) != string(want) || why != wantWhy {
		t.Fatalf("Encode(%s): % x, %v, want % x, %v", told(l), b, why, want, wantWhy)
	}
	return b, why
}

func wantAsModelDecodes(t *testing.T, b []byte) ([]code.Inst, api.Errno) {
	t.Helper()
	l, why, at := code.Decode(b)
	if want, wantWhy, wantAt := modelDecode(b); told(l) != told(want) || why != wantWhy || at != wantAt {
		t.Fatalf("Decode(% x): %s, %v at %d, want %s, %v at %d", b, told(l), why, at, told(want), wantWhy, wantAt)
	}
	return l, why
}

// wantBack: P13.4, from the bytes on.
func wantBack(t *testing.T, b []byte, l []code.Inst) {
	t.Helper()
	if again, why := code.Encode(l); string(again) != string(b) || why != api.OK {
		t.Fatalf("Encode of Decode(% x): % x, %v", b, again, why)
	}
	wantRefs(t, l, b)
}

// wantRefs: P13.3, each reference stands where Refs tells, within the bytes, and there are as many as Takes knows of.
func wantRefs(t *testing.T, l []code.Inst, b []byte) {
	t.Helper()
	var want []int
	for _, i := range l {
		switch i.Op {
		case code.Call, code.Global:
			want = append(want, i.At+1)
		case code.Build, code.Switch, code.Close:
			want = append(want, i.At+2)
		}
	}
	got := code.Refs(l)
	if !slices.Equal(got, want) {
		t.Fatalf("Refs(%s): %v, want %v", told(l), got, want)
	}
	for _, at := range got {
		if b[at] != 0 || b[at+1] != 0 {
			t.Fatalf("Refs(%s): % x at %d", told(l), b[at:at+2], at)
		}
	}
}

// P13.1 and P13.4 of right lists.
func TestListsByChance(t *testing.T) {
	t.Parallel()
	c := chance{rand.New(rand.NewSource(13))}
	met := map[api.Errno]int{}
	for range 6000 {
		l, end := c.list(c.of(0, 1, 2, 5, 20, 240))
		b, why := wantAsModelEncodes(t, l)
		met[why]++
		if why != api.OK {
			if why != api.ErrLong || end <= api.MaxCode {
				t.Fatalf("Encode(%s): %v", told(l), why)
			}
			continue
		}
		if got, _ := wantAsModelDecodes(t, b); told(got) != told(l) {
			t.Fatalf("Decode of Encode(%s): %s", told(l), told(got))
		}
		wantBack(t, b, l)
	}
	if met[api.OK] < 4000 || met[api.ErrLong] < 300 {
		t.Errorf("met %v", met)
	}
}

// P13.1 of lists that were hurt: the first refusal.
func TestHurtListsByChance(t *testing.T) {
	t.Parallel()
	c := chance{rand.New(rand.NewSource(131))}
	met := map[api.Errno]int{}
	for range 40000 {
		l, _ := c.list(c.of(1, 2, 3, 7, 250))
		for range c.of(1, 1, 2, 3) {
			c.hurt(&l[c.Intn(len(l))])
		}
		_, why := wantAsModelEncodes(t, l)
		met[why]++
	}
	for _, why := range []api.Errno{api.OK, api.ErrForm, api.ErrJump, api.ErrLong} {
		if met[why] < 100 {
			t.Errorf("%v met only %d times", why, met[why])
		}
	}
}

// P13.2 and P13.4 of bytes: of code that was cut, and of which bytes were turned; of any bytes.
func TestBytesByChance(t *testing.T) {
	t.Parallel()
	c := chance{rand.New(rand.NewSource(132))}
	met := map[api.Errno]int{}
	for range 60000 {
		l, _ := c.list(c.of(0, 1, 2, 4, 9, 40))
		b, _ := modelEncode(l)
		if len(b) > 0 && c.Intn(2) == 0 {
			b = b[:c.Intn(len(b))]
		}
		for range c.of(0, 1, 2) {
			if len(b) > 0 {
				b[c.Intn(len(b))] = byte(c.of(0, 1, 6, 7, 16, 127, 128, 255, c.Intn(256)))
			}
		}
		got, why := wantAsModelDecodes(t, b)
		met[why]++
		if why == api.OK {
			wantBack(t, b, got)
		}
	}
	for _, why := range []api.Errno{api.OK, api.ErrForm, api.ErrEnd} {
		if met[why] < 1000 {
			t.Errorf("%v met only %d times", why, met[why])
		}
	}
}

// P13.2 of all bytes of a length of three at most, and of four and five of the telling ones.
func TestAllShortBytes(t *testing.T) {
	t.Parallel()
	var each func(b []byte, alphabet []byte, left int)
	each = func(b []byte, alphabet []byte, left int) {
		if l, why := wantAsModelDecodes(t, b); why == api.OK {
			wantBack(t, b, l)
		}
		if left == 0 {
			return
		}
		for _, x := range alphabet {
			each(append(b, x), alphabet, left-1)
		}
	}
	var every []byte
	for x := range 256 {
		every = append(every, byte(x))
	}
	each(nil, every, 2)
	each(nil, []byte{0, 1, 2, 5, 7, 8, 9, 10, 11, 15, 16, 128}, 4)
	each(nil, []byte{0, 1, 2, 10, 15, 129}, 6)
}

func FuzzDecode(f *testing.F) {
	for _, c := range ones() {
		f.Add([]byte(c.bytes))
		f.Add([]byte(c.bytes[:len(c.bytes)-1]))
	}
	f.Fuzz(func(t *testing.T, b []byte) {
		if l, why := wantAsModelDecodes(t, b); why == api.OK {
			wantBack(t, b, l)
		}
	})
}

func FuzzEncode(f *testing.F) {
	f.Add(0, 10, 2, 0, 0.0, 0.0, "", 8, 9, 2)
	f.Add(0, 1, 0, 0, 3.0, -1.0, "", 0, 0, 0)
	f.Add(0, 2, 0, 0, 0.0, 0.0, "ab", 0, 0, 0)
	f.Fuzz(func(t *testing.T, at, op, a, b int, first, second float64, text string, one, two, count int) {
		to := []int{one, two}[:min(max(count, 0), 2)]
		i := code.Inst{At: at, Op: op, A: a, B: b, N: complex(first, second), Text: text, To: to}
		bytes, why := wantAsModelEncodes(t, []code.Inst{i})
		if why == api.OK {
			wantAsModelDecodes(t, bytes)
		}
		wantAsModelEncodes(t, []code.Inst{{Op: code.Ret}, i})
	})
}
