package wire_test

import (
	"bytes"
	"math"
	"math/big"
	"math/rand"
	"strings"
	"testing"

	"hawser/api"
	"hawser/wire"
)

// written answers what a new Writer holds after write.
func written(write func(w *wire.Writer)) []byte {
	w := wire.NewWriter()
	write(w)
	return w.Done()
}

func wantBytes(t *testing.T, what string, got []byte, want string) {
	t.Helper()
	if string(got) != want {
		t.Errorf("%s: % x, want % x", what, got, want)
	}
}

func wantEnd(t *testing.T, what string, r *wire.Reader, why api.Errno, at int) {
	t.Helper()
	if gotWhy, gotAt := r.End(); gotWhy != why || gotAt != at {
		t.Errorf("%s: %v at %d, want %v at %d", what, gotWhy, gotAt, why, at)
	}
}

func TestRuns(t *testing.T) {
	wantBytes(t, "Number(300)", written(func(w *wire.Writer) { w.Number(300) }), "\xac\x02")
	wantBytes(t, "Signed(-1)", written(func(w *wire.Writer) { w.Signed(-1) }), "\x01")

	r := wire.NewReader([]byte{0x80, 0x00})
	r.Number(9)
	wantEnd(t, "Number(9) of 80 00", r, api.ErrForm, 0)

	r = wire.NewReader([]byte{0x0a})
	r.Number(9)
	wantEnd(t, "Number(9) of 0a", r, api.ErrLong, 0)

	r = wire.NewReader([]byte{0x02, 0x61})
	r.Text(5)
	wantEnd(t, "Text(5) of 02 61", r, api.ErrEnd, 2)
}

func TestExamples(t *testing.T) {
	wantBytes(t, "Number(0)", written(func(w *wire.Writer) { w.Number(0) }), "\x00")

	r := wire.NewReader([]byte{1, 2})
	if got := r.Raw(-1); len(got) != 0 || r.Left() != 2 {
		t.Errorf("Raw(-1): % x with %d left", got, r.Left())
	}

	r = wire.NewReader([]byte(strings.Repeat("\xff", 10) + "\x01"))
	if n := r.Number(math.MaxUint64); n != 0 {
		t.Errorf("ten bytes ff and one: %d", n)
	}
	wantEnd(t, "ten bytes ff and one", r, api.ErrForm, 0)
}

var numberWritings = []struct {
	n     uint64
	bytes string
}{
	{0, "\x00"},
	{1, "\x01"},
	{127, "\x7f"},
	{128, "\x80\x01"},
	{255, "\xff\x01"},
	{300, "\xac\x02"},
	{1<<14 - 1, "\xff\x7f"},
	{1 << 14, "\x80\x80\x01"},
	{1<<32 - 1, "\xff\xff\xff\xff\x0f"},
	{1<<56 - 1, "\xff\xff\xff\xff\xff\xff\xff\x7f"},
	{1 << 56, "\x80\x80\x80\x80\x80\x80\x80\x80\x01"},
	{1<<63 - 1, "\xff\xff\xff\xff\xff\xff\xff\xff\x7f"},
	{1 << 63, "\x80\x80\x80\x80\x80\x80\x80\x80\x80\x01"},
	{math.MaxUint64, "\xff\xff\xff\xff\xff\xff\xff\xff\xff\x01"},
}

// P1.1, P1.2 and P1.3 of a number's writing, with most just at it.
func TestNumberWritings(t *testing.T) {
	for _, c := range numberWritings {
		wantBytes(t, "Number", written(func(w *wire.Writer) { w.Number(c.n) }), c.bytes)
		r := wire.NewReader([]byte(c.bytes))
		if got := r.Number(c.n); got != c.n {
			t.Errorf("Number of % x: %d, want %d", c.bytes, got, c.n)
		}
		wantEnd(t, "the number itself as most", r, api.OK, 0)
	}
}

var signedWritings = []struct {
	n     int64
	bytes string
}{
	{0, "\x00"},
	{-1, "\x01"},
	{1, "\x02"},
	{-2, "\x03"},
	{63, "\x7e"},
	{-64, "\x7f"},
	{64, "\x80\x01"},
	{-65, "\x81\x01"},
	{math.MaxInt64, "\xfe\xff\xff\xff\xff\xff\xff\xff\xff\x01"},
	{math.MinInt64 + 1, "\xfd\xff\xff\xff\xff\xff\xff\xff\xff\x01"},
	{math.MinInt64, "\xff\xff\xff\xff\xff\xff\xff\xff\xff\x01"},
}

func TestSignedWritings(t *testing.T) {
	for _, c := range signedWritings {
		wantBytes(t, "Signed", written(func(w *wire.Writer) { w.Signed(c.n) }), c.bytes)
		r := wire.NewReader([]byte(c.bytes))
		if got := r.Signed(); got != c.n {
			t.Errorf("Signed of % x: %d, want %d", c.bytes, got, c.n)
		}
		wantEnd(t, "Signed", r, api.OK, 0)
	}
}

func TestWriterTextAndRaw(t *testing.T) {
	long := strings.Repeat("x", 200)
	for _, c := range []struct {
		what  string
		write func(w *wire.Writer)
		want  string
	}{
		{"nothing", func(w *wire.Writer) {}, ""},
		{"empty text", func(w *wire.Writer) { w.Text("") }, "\x00"},
		{"text of any bytes", func(w *wire.Writer) { w.Text("a\x00\xff\xc3") }, "\x04a\x00\xff\xc3"},
		{"length of two bytes", func(w *wire.Writer) { w.Text(long) }, "\xc8\x01" + long},
		{"raw", func(w *wire.Writer) { w.Raw([]byte{0, 0x80, 9}) }, "\x00\x80\x09"},
		{"raw of none", func(w *wire.Writer) { w.Raw(nil); w.Raw([]byte{}) }, ""},
		{"in their order", func(w *wire.Writer) { w.Number(5); w.Text("ab"); w.Raw([]byte("c")); w.Signed(-3) }, "\x05\x02abc\x05"},
	} {
		wantBytes(t, c.what, written(c.write), c.want)
	}
}

// R2: what is handed in is neither kept nor changed, and each answer of Done is its own.
func TestWriterSharesNothing(t *testing.T) {
	b := []byte("abcdef")
	w := wire.NewWriter()
	w.Raw(b[:3])
	b[0] = 'z'
	first := w.Done()
	wantBytes(t, "Raw after its bytes were changed", first, "abc")
	for i := range first[:cap(first)] {
		first[:cap(first)][i] = 'q'
	}
	wantBytes(t, "Done after its answer was changed", w.Done(), "abc")
	w.Raw([]byte("d"))
	wantBytes(t, "more behind Done", w.Done(), "abcd")
	if string(b) != "zbcdef" {
		t.Errorf("Raw changed what it was given: %q", b)
	}
}

var wrongNumbers = []struct {
	what  string
	bytes string
	most  uint64
	why   api.Errno
	at    int
}{
	{"last byte 0 of two", "\x80\x00", math.MaxUint64, api.ErrForm, 0},
	{"last byte 0 of two, others behind", "\xff\x00\x07", 0, api.ErrForm, 0},
	{"last byte 0 of ten", strings.Repeat("\x80", 9) + "\x00", math.MaxUint64, api.ErrForm, 0},
	{"2^64", strings.Repeat("\x80", 9) + "\x02", math.MaxUint64, api.ErrForm, 0},
	{"2^64 and more", strings.Repeat("\xff", 9) + "\x7f", math.MaxUint64, api.ErrForm, 0},
	{"2^64, form ahead of long", strings.Repeat("\xff", 9) + "\x02", 9, api.ErrForm, 0},
	{"ten that go on, then the end", strings.Repeat("\x80", 10), 9, api.ErrForm, 0},
	{"ten that go on, then a last one", strings.Repeat("\x80", 10) + "\x00", 9, api.ErrForm, 0},
	{"many that go on", strings.Repeat("\xff", 30), math.MaxUint64, api.ErrForm, 0},
	{"above most", "\x0a", 9, api.ErrLong, 0},
	{"above most 0", "\x01", 0, api.ErrLong, 0},
	{"above most by the tenth byte", strings.Repeat("\xff", 9) + "\x01", math.MaxUint64 - 1, api.ErrLong, 0},
	{"above most, others behind", "\x80\x01\x05", 127, api.ErrLong, 0},
	{"no byte", "", math.MaxUint64, api.ErrEnd, 0},
	{"one that goes on", "\x80", 0, api.ErrEnd, 1},
	{"nine that go on", strings.Repeat("\xff", 9), 0, api.ErrEnd, 9},
}

// P1.2: numbers that are refused, from the beginning and behind other bytes.
func TestWrongNumbers(t *testing.T) {
	for _, c := range wrongNumbers {
		r := wire.NewReader([]byte(c.bytes))
		if got := r.Number(c.most); got != 0 {
			t.Errorf("%s: %d beside a refusal", c.what, got)
		}
		wantEnd(t, c.what, r, c.why, c.at)

		r = wire.NewReader([]byte("abc" + c.bytes))
		r.Raw(3)
		r.Number(c.most)
		wantEnd(t, c.what+", three further", r, c.why, c.at+3)

		if c.why != api.ErrLong {
			r = wire.NewReader([]byte(c.bytes))
			if got := r.Signed(); got != 0 {
				t.Errorf("%s, Signed: %d beside a refusal", c.what, got)
			}
			wantEnd(t, c.what+", Signed", r, c.why, c.at)
		}
		r = wire.NewReader([]byte(c.bytes))
		if got := r.Text(int(min(c.most, math.MaxInt))); got != "" {
			t.Errorf("%s, Text: %q beside a refusal", c.what, got)
		}
		wantEnd(t, c.what+", Text", r, c.why, c.at)
	}
}

func TestReaderText(t *testing.T) {
	for _, c := range []struct {
		what  string
		bytes string
		most  int
		want  string
		why   api.Errno
		at    int
	}{
		{"empty", "\x00", 5, "", api.OK, 0},
		{"as long as most", "\x02ab", 2, "ab", api.OK, 0},
		{"bytes left", "\x02abc", 5, "ab", api.ErrTail, 3},
		{"one above most", "\x03abc", 2, "", api.ErrLong, 0},
		{"most 0, empty", "\x00", 0, "", api.OK, 0},
		{"most below 0 is 0", "\x00", -1, "", api.OK, 0},
		{"above most below 0", "\x01a", -1, "", api.ErrLong, 0},
		{"above the least most", "\x01a", math.MinInt, "", api.ErrLong, 0},
		{"no length", "", 5, "", api.ErrEnd, 0},
		{"length cut", "\x80", 5, "", api.ErrEnd, 1},
		{"bytes short", "\x05abcd", 5, "", api.ErrEnd, 5},
		{"long ahead of short", "\x06", 5, "", api.ErrLong, 0},
		{"length wrong", "\x81\x00a", 5, "", api.ErrForm, 0},
		{"the greatest length", "\xff\xff\xff\xff\xff\xff\xff\xff\x7fab", math.MaxInt, "", api.ErrEnd, 11},
		{"a length that is no int", "\x80\x80\x80\x80\x80\x80\x80\x80\x80\x01ab", math.MaxInt, "", api.ErrLong, 0},
	} {
		r := wire.NewReader([]byte(c.bytes))
		if got := r.Text(c.most); got != c.want {
			t.Errorf("%s: %q, want %q", c.what, got, c.want)
		}
		wantEnd(t, c.what, r, c.why, c.at)
	}
}

func TestReaderRaw(t *testing.T) {
	for _, c := range []struct {
		n    int
		want string
		why  api.Errno
		at   int
	}{
		{math.MinInt, "", api.ErrTail, 1},
		{-1, "", api.ErrTail, 1},
		{0, "", api.ErrTail, 1},
		{1, "b", api.ErrTail, 2},
		{3, "bcd", api.OK, 0},
		{4, "", api.ErrEnd, 4},
		{math.MaxInt, "", api.ErrEnd, 4},
	} {
		r := wire.NewReader([]byte("abcd"))
		r.Raw(1)
		if got := r.Raw(c.n); string(got) != c.want {
			t.Errorf("Raw(%d): %q, want %q", c.n, got, c.want)
		}
		wantEnd(t, "Raw", r, c.why, c.at)
	}
	r := wire.NewReader(nil)
	if got := r.Raw(0); len(got) != 0 {
		t.Errorf("Raw(0) of none: %q", got)
	}
	wantEnd(t, "Raw(0) of none", r, api.OK, 0)
}

// P1.2: Left and End tell where reading stands, and change nothing; bytes that were left can still be read.
func TestLeftAndEnd(t *testing.T) {
	r := wire.NewReader([]byte("\x05\x02ab\x03c"))
	for _, c := range []struct {
		read     func()
		left, at int
	}{
		{func() {}, 6, 0},
		{func() { r.Number(9) }, 5, 1},
		{func() { r.Text(9) }, 2, 4},
		{func() { r.Signed() }, 1, 5},
	} {
		c.read()
		for range 2 {
			wantEnd(t, "bytes left", r, api.ErrTail, c.at)
			if got := r.Left(); got != c.left {
				t.Errorf("Left at %d: %d, want %d", c.at, got, c.left)
			}
		}
	}
	if got := r.Raw(1); string(got) != "c" || r.Left() != 0 {
		t.Errorf("the last byte: %q with %d left", got, r.Left())
	}
	wantEnd(t, "all read", r, api.OK, 0)
	wantEnd(t, "of nil", wire.NewReader(nil), api.OK, 0)
	wantEnd(t, "of none", wire.NewReader([]byte{}), api.OK, 0)
}

func TestFail(t *testing.T) {
	r := wire.NewReader([]byte("abc"))
	r.Raw(2)
	r.Fail(api.OK)
	if r.Left() != 1 {
		t.Errorf("Fail(OK): %d left", r.Left())
	}
	wantEnd(t, "Fail(OK)", r, api.ErrTail, 2)
	r.Fail(api.ErrRef)
	wantEnd(t, "Fail(ErrRef)", r, api.ErrRef, 2)
	r.Fail(api.OK)
	r.Fail(api.ErrMany)
	wantEnd(t, "Fail behind a refusal", r, api.ErrRef, 2)

	r = wire.NewReader(nil)
	r.Fail(api.ErrType)
	wantEnd(t, "Fail of none", r, api.ErrType, 0)

	r = wire.NewReader([]byte("a"))
	r.Raw(1)
	r.Fail(api.ErrTail)
	wantEnd(t, "Fail at the end", r, api.ErrTail, 1)

	r = wire.NewReader([]byte("a"))
	r.Fail(api.Errno(-7))
	wantEnd(t, "Fail with a number of no error", r, api.Errno(-7), 0)
}

// P1.2: behind a refusal of whatever kind all is zero or empty, nothing moves, and the refusal stays.
func TestBehindARefusal(t *testing.T) {
	for _, c := range []struct {
		what   string
		bytes  string
		refuse func(r *wire.Reader)
		why    api.Errno
		at     int
	}{
		{"ErrForm", "\x01\x80\x00\x01\x01a", func(r *wire.Reader) { r.Number(9) }, api.ErrForm, 1},
		{"ErrLong", "\x01\x05\x01\x01a", func(r *wire.Reader) { r.Number(4) }, api.ErrLong, 1},
		{"ErrLong of Text", "\x01\x05\x01\x01a", func(r *wire.Reader) { r.Text(4) }, api.ErrLong, 1},
		{"ErrEnd of Number", "\x01\x80", func(r *wire.Reader) { r.Number(4) }, api.ErrEnd, 2},
		{"ErrEnd of Text", "\x01\x05\x01\x01a", func(r *wire.Reader) { r.Text(9) }, api.ErrEnd, 5},
		{"ErrEnd of Raw", "\x01\x05\x01\x01a", func(r *wire.Reader) { r.Raw(9) }, api.ErrEnd, 5},
		{"Fail", "\x01\x05\x01\x01a", func(r *wire.Reader) { r.Fail(api.ErrJump) }, api.ErrJump, 1},
	} {
		r := wire.NewReader([]byte(c.bytes))
		r.Number(1)
		c.refuse(r)
		for range 2 {
			wantEnd(t, c.what, r, c.why, c.at)
			if r.Left() != 0 || r.Number(math.MaxUint64) != 0 || r.Signed() != 0 || r.Text(math.MaxInt) != "" || len(r.Raw(1)) != 0 || len(r.Raw(-1)) != 0 {
				t.Errorf("%s: something is read behind it", c.what)
			}
			r.Fail(api.ErrMany)
			r.Raw(math.MaxInt)
		}
		wantEnd(t, c.what, r, c.why, c.at)
	}
}

// R2: a Reader keeps and changes nothing of what it was given, and no answer shares memory.
func TestReaderSharesNothing(t *testing.T) {
	b := []byte("abcdefgh")
	r := wire.NewReader(b[:6])
	b[1] = 'z'
	first := r.Raw(2)
	wantBytes(t, "Raw after the bytes were changed", first, "ab")
	for i := range first[:cap(first)] {
		first[:cap(first)][i] = 'q'
	}
	second := r.Raw(2)
	wantBytes(t, "Raw after an answer was changed", second, "cd")
	for i := range second[:cap(second)] {
		second[:cap(second)][i] = 'q'
	}
	wantBytes(t, "the last ones", r.Raw(2), "ef")
	wantEnd(t, "spare room is not read", r, api.OK, 0)
	if string(b) != "azcdefgh" {
		t.Errorf("the bytes handed in are now %q", b)
	}
}

// modelNumber says by big numbers what Number(most) has to answer of b from 0 on, and how many bytes it goes past.
func modelNumber(b []byte, most uint64) (uint64, int, api.Errno, int) {
	size := 0
	for size < len(b) && b[size] >= 128 {
		size++
	}
	if size >= 10 {
		return 0, 0, api.ErrForm, 0
	}
	if size == len(b) {
		return 0, 0, api.ErrEnd, len(b)
	}
	n := new(big.Int)
	for i := size; i >= 0; i-- {
		n.Mul(n, big.NewInt(128))
		n.Add(n, big.NewInt(int64(b[i]%128)))
	}
	if b[size] == 0 && size > 0 || !n.IsUint64() {
		return 0, 0, api.ErrForm, 0
	}
	if n.Uint64() > most {
		return 0, 0, api.ErrLong, 0
	}
	return n.Uint64(), size + 1, api.OK, 0
}

func checkNumber(t *testing.T, b []byte, most uint64) {
	t.Helper()
	n, size, why, at := modelNumber(b, most)
	r := wire.NewReader(b)
	if got := r.Number(most); got != n {
		t.Fatalf("Number(%d) of % x: %d, want %d", most, b, got, n)
	}
	if why == api.OK {
		if got := written(func(w *wire.Writer) { w.Number(n) }); !bytes.Equal(got, b[:size]) {
			t.Fatalf("% x is %d, which is written as % x", b[:size], n, got)
		}
		if size < len(b) {
			why, at = api.ErrTail, size
		}
	}
	wantEnd(t, "Number of random bytes", r, why, at)
}

// P1.2 and P1.3 of all short bytes, and of random ones near every edge of a number's form.
func TestNumberAgainstModel(t *testing.T) {
	checkNumber(t, nil, math.MaxUint64)
	for n := range 1 << 16 {
		checkNumber(t, []byte{byte(n)}, math.MaxUint64)
		checkNumber(t, []byte{byte(n), byte(n >> 8)}, math.MaxUint64)
		checkNumber(t, []byte{byte(n), byte(n >> 8)}, 300)
	}
	x := rand.New(rand.NewSource(1))
	edges := []byte{0x00, 0x01, 0x02, 0x7f, 0x80, 0x81, 0xff}
	for range 100000 {
		b := make([]byte, x.Intn(14))
		ahead := x.Intn(13)
		for i := range b {
			b[i] = edges[x.Intn(len(edges))]
			if i < ahead {
				b[i] |= 0x80
			}
		}
		checkNumber(t, b, math.MaxUint64>>x.Intn(65))
	}
}

// P1.3: whatever is written, in whatever order, is read.
func TestWhatIsWrittenIsRead(t *testing.T) {
	x := rand.New(rand.NewSource(2))
	for range 2000 {
		w := wire.NewWriter()
		var reads []func(r *wire.Reader) bool
		for range x.Intn(12) {
			n := x.Uint64() >> x.Intn(65)
			s := make([]byte, x.Intn(300))
			x.Read(s)
			switch x.Intn(4) {
			case 0:
				w.Number(n)
				reads = append(reads, func(r *wire.Reader) bool { return r.Number(n) == n })
			case 1:
				w.Signed(int64(n))
				reads = append(reads, func(r *wire.Reader) bool { return r.Signed() == int64(n) })
			case 2:
				w.Text(string(s))
				reads = append(reads, func(r *wire.Reader) bool { return r.Text(len(s)) == string(s) })
			case 3:
				w.Raw(s)
				reads = append(reads, func(r *wire.Reader) bool { return bytes.Equal(r.Raw(len(s)), s) })
			}
		}
		r := wire.NewReader(w.Done())
		for i, read := range reads {
			if !read(r) {
				t.Fatalf("read %d of % x is not what was written", i, w.Done())
			}
		}
		wantEnd(t, "all that was written", r, api.OK, 0)
	}
}

// P1.3: cut anywhere, what was written is short, and told so at the end of all.
func TestCutShort(t *testing.T) {
	all := written(func(w *wire.Writer) { w.Number(1 << 40); w.Signed(-1 << 40); w.Text("hawser"); w.Raw([]byte("end")) })
	for size := range all {
		r := wire.NewReader(all[:size])
		r.Number(math.MaxUint64)
		r.Signed()
		r.Text(6)
		r.Raw(3)
		wantEnd(t, "cut", r, api.ErrEnd, size)
	}
}

// R1: any calls on any bytes end, without a panic.
func FuzzReader(f *testing.F) {
	f.Add([]byte("\x02ab\x80"), []byte{0, 1, 2, 3}, 5)
	f.Add([]byte(strings.Repeat("\xff", 11)), []byte{2}, math.MaxInt)
	f.Add([]byte("abc"), []byte{3, 4, 3}, math.MinInt)
	f.Fuzz(func(t *testing.T, b, calls []byte, n int) {
		r := wire.NewReader(b)
		for _, call := range calls {
			left := r.Left()
			switch call % 5 {
			case 0:
				r.Number(uint64(n))
			case 1:
				r.Signed()
			case 2:
				r.Text(n)
			case 3:
				r.Raw(n)
			case 4:
				r.Fail(api.Errno(n))
			}
			if r.Left() > left || r.Left() < 0 {
				t.Fatalf("%d bytes are left of %d", r.Left(), left)
			}
		}
		if why, at := r.End(); at < 0 || at > len(b) || why == api.OK && at != 0 {
			t.Fatalf("%v at %d of %d bytes", why, at, len(b))
		}
	})
}
