package object_test

import (
	"bytes"
	"encoding/binary"
	"slices"
	"strings"
	"testing"

	"hawser/api"
	"hawser/object"
)

func wantRefused(t *testing.T, b []byte, why api.Errno, at int) {
	t.Helper()
	got, gotWhy, gotAt := object.Decode(b)
	if told(got) != told(object.Object{}) || gotWhy != why || gotAt != at {
		t.Errorf("Decode(%.100x) of %d bytes: %.200s, %v at %d, want %v at %d", b, len(b), told(got), gotWhy, gotAt, why, at)
	}
}

// wantAsByThrows: Decode answers of b what the model does, and what it takes Encode writes as b.
func wantAsByThrows(t *testing.T, b []byte) api.Errno {
	t.Helper()
	want, why, at := decodeByThrows(b)
	if why != api.OK {
		wantRefused(t, b, why, at)
		return why
	}
	wantRound(t, "bytes", want, b)
	return why
}

// P14.2: bytes that are cut off at each place, and with more behind them.
func TestDecodeCutOff(t *testing.T) {
	for _, o := range rights() {
		b := bytesByHand(o)
		for n := range b {
			if len(b) < 1000 || n%11 == 0 || n < 30 || n > len(b)-30 {
				wantRefused(t, b[:n:n], api.ErrEnd, n)
				wantRefused(t, b[:n], api.ErrEnd, n)
			}
		}
		if len(b) == api.MaxObject {
			wantRefused(t, append(slices.Clip(b), 0), api.ErrLong, 0)
			continue
		}
		for k := range 256 {
			wantRefused(t, append(slices.Clip(b), byte(k)), api.ErrTail, len(b))
		}
		if 2*len(b) <= api.MaxObject {
			wantRefused(t, slices.Concat(b, b), api.ErrTail, len(b))
		}
	}
	wantRefused(t, nil, api.ErrEnd, 0)
	wantRefused(t, []byte{}, api.ErrEnd, 0)
}

// P14.2: each byte turned to telling ones, taken away, or doubled.
func TestDecodeTurned(t *testing.T) {
	t.Parallel()
	seen := map[api.Errno]int{}
	for _, o := range rights() {
		b := bytesByHand(o)
		if len(b) > 1000 {
			continue
		}
		for n := range b {
			for _, k := range []byte{b[n] - 1, b[n] + 1, b[n] ^ 0x20, 0, 1, 2, 3, 4, 6, 24, 25, '0', '1', '?', 'A', 'a', 'm', 'n', 0x7f, 0x80, 0xff} {
				x := slices.Clone(b)
				x[n] = k
				seen[wantAsByThrows(t, x)]++
			}
			seen[wantAsByThrows(t, slices.Concat(b[:n], b[n+1:]))]++
			seen[wantAsByThrows(t, slices.Concat(b[:n], b[n:n+1], b[n:]))]++
		}
	}
	for _, why := range []api.Errno{api.OK, api.ErrEnd, api.ErrTail, api.ErrLong, api.ErrForm, api.ErrName, api.ErrType, api.ErrRef, api.ErrNone, api.ErrTaken, api.ErrCount} {
		if seen[why] < 5 {
			t.Errorf("too few are %v: %d", why, seen[why])
		}
	}
}

// numbered is what stands ahead of a number and behind it.
type numbered struct {
	what, ahead, behind string
	why                 api.Errno // what Right answers of a number that is too great for it
}

// P14.2: numbers that count nothing, of 65535 and above, at each place.
func TestDecodeNumbers(t *testing.T) {
	for _, c := range []numbered{
		{"a type's kind", "\x01m\x01", "\x01c\x03num\x00\x00\x00\x00\x00\x00", api.ErrForm},
		{"a global's function", "\x01m\x00\x00\x01\x01c\x03num", "\x00\x00\x00\x00", api.ErrRef},
		{"Captures", "\x01m\x00\x00\x00\x01\x00\x00", "\x03num\x00\x00\x00\x00\x00", api.ErrCount},
		{"Locals", "\x01m\x00\x00\x00\x01\x00\x00\x00\x03num", "\x00\x00\x00\x00", api.ErrCount},
		{"a symbol's kind", "\x01m\x00\x00\x00\x00\x00\x01\x01n", "\x01c\x03num\x00", api.ErrForm},
		{"a relocation's function", "\x01m\x00\x00\x00\x00\x00\x00\x01", "\x00\x00", api.ErrRef},
		{"its place", "\x01m\x00\x00\x00\x00\x00\x00\x01\x00", "\x00", api.ErrRef},
		{"its symbol", "\x01m\x00\x00\x00\x00\x00\x00\x01\x00\x00", "", api.ErrRef},
		{"a place in code", "\x01m\x00\x00\x00\x01\x00\x00\x00\x03num\x00\x02\x00\x00\x00\x01\x01m\x03\x00\x010\x01\x00", "\x00", api.ErrRef},
		{"a symbol of one", "\x01m\x00\x00\x00\x01\x00\x00\x00\x03num\x00\x02\x00\x00\x00\x01\x01m\x03\x00\x010\x01\x00\x00", "", api.ErrRef},
	} {
		put := func(n uint64) []byte {
			return append(binary.AppendUvarint([]byte(c.ahead), n), c.behind...)
		}
		for _, n := range []uint64{256, 16384, 65534, 65535} {
			wantRefused(t, put(n), c.why, 0)
			wantRefused(t, append(put(n), 0), api.ErrTail, len(put(n)))
		}
		for _, n := range []uint64{65536, 65537, 1 << 20, 1 << 31, 1 << 32, 1<<32 + 1, 1 << 63, 1<<63 + 1, 1<<64 - 1} {
			wantRefused(t, put(n), api.ErrLong, len(c.ahead))
			wantRefused(t, put(n)[:len(put(n))-len(c.behind)], api.ErrLong, len(c.ahead))
		}
		wantRefused(t, []byte(c.ahead+"\x81\x00"+c.behind), api.ErrForm, len(c.ahead))
		wantRefused(t, []byte(c.ahead+strings.Repeat("\xff", 10)+c.behind), api.ErrForm, len(c.ahead))
		wantRefused(t, []byte(c.ahead+"\xff\xff"), api.ErrEnd, len(c.ahead)+2)
	}
}

// P14.2: how many a list may have by its number; what is not there is cut off.
func TestDecodeCounts(t *testing.T) {
	for _, c := range []numbered{
		{"types", "\x01m", "", 0},
		{"texts", "\x01m\x00", "", 0},
		{"globals", "\x01m\x00\x00", "", 0},
		{"functions", "\x01m\x00\x00\x00", "", 0},
		{"exports", "\x01m\x00\x00\x00\x00", "", 0},
		{"symbols", "\x01m\x00\x00\x00\x00\x00", "", 0},
		{"relocations", "\x01m\x00\x00\x00\x00\x00\x00", "", 0},
		{"cases", "\x01m\x01\x01\x01T", "", 0},
		{"fields", "\x01m\x01\x01\x01T\x01\x01A", "", 0},
		{"params", "\x01m\x00\x00\x00\x01\x00", "", 0},
		{"code", "\x01m\x00\x00\x00\x01\x00\x00\x00\x03num\x00", "", 0},
		{"a symbol's cases", "\x01m\x00\x00\x00\x00\x00\x01\x01n\x01\x01T", "", 0},
		{"its fields", "\x01m\x00\x00\x00\x00\x00\x01\x01n\x01\x01T\x01\x01A", "", 0},
	} {
		for _, n := range []uint64{8192, 65534, 65535} {
			b := binary.AppendUvarint([]byte(c.ahead), n)
			wantRefused(t, b, api.ErrEnd, len(b))
			all := append(b, make([]byte, 8192-len(b))...)
			wantRefused(t, all, api.ErrEnd, len(all))
		}
		for _, n := range []uint64{65536, 1 << 32, 1<<64 - 1} {
			b := binary.AppendUvarint([]byte(c.ahead), n)
			wantRefused(t, b, api.ErrLong, len(c.ahead))
			wantRefused(t, append(b, make([]byte, 5000)...), api.ErrLong, len(c.ahead))
		}
		wantRefused(t, []byte(c.ahead+"\x80\x00"+"\x00\x00\x00\x00\x00\x00\x00\x00"), api.ErrForm, len(c.ahead))
	}
}

// P14.2: more than may be in a list, and all there: what Right answers, at 0.
func TestDecodeMany(t *testing.T) {
	lists := map[string]object.Object{
		"types":            {Module: "m", Types: many(33, typeItem("T", caseOf("A")))},
		"texts":            {Module: "m", Texts: many(33, "num")},
		"globals":          {Module: "m", Globals: many(33, object.Global{Name: "g", Type: "num"})},
		"functions":        {Module: "m", Funs: many(49, plain(0))},
		"exports":          {Module: "m", Exports: many(33, "f")},
		"symbols":          {Module: "m", Symbols: many(97, unnamed("1"))},
		"relocations":      {Module: "m", Relocs: many(385, object.Reloc{})},
		"far too many":     {Module: "m", Texts: many(8000, "")},
		"far more of them": {Module: "m", Relocs: many(2700, object.Reloc{})},
	}
	for what, o := range lists {
		b := bytesByHand(o)
		if why, _ := rightByFaults(o); why != api.ErrMany || len(b) > api.MaxObject {
			t.Errorf("%s: %v", what, why)
		}
		wantRefused(t, b, api.ErrMany, 0)
		wantRefused(t, append(b, 0), api.ErrTail, len(b))
		wantRefused(t, b[:len(b)-1], api.ErrEnd, len(b)-1)
		o.Module = "M"
		wantRefused(t, bytesByHand(o), api.ErrName, 0)
	}
}

// P14.2: how long a name and a type may be, at each place; what is longer is refused ahead of what Right would say.
func TestDecodeTexts(t *testing.T) {
	const none = "\x00\x00\x00\x00\x00\x00\x00"
	for _, c := range []struct {
		what, ahead, behind string
		most                int
		why                 api.Errno
	}{
		{"module", "", none, 24, api.ErrName},
		{"a type's name", "\x01m\x01\x01", "\x01\x01A\x00" + none[1:], 24, api.ErrName},
		{"a case's name", "\x01m\x01\x01\x01T\x01", "\x00" + none[1:], 24, api.ErrName},
		{"a field", "\x01m\x01\x01\x01T\x01\x01A\x01", none[1:], 200, api.ErrType},
		{"a const among types", "\x01m\x01\x02\x01c", none[1:], 200, api.ErrType},
		{"no kind among types", "\x01m\x01\x00\x01c", none[1:], 200, api.ErrForm},
		{"a text", "\x01m\x00\x01", none[2:], 200, api.ErrType},
		{"a global's name", "\x01m\x00\x00\x01", "\x03num\x00" + none[3:], 24, api.ErrName},
		{"a global's type", "\x01m\x00\x00\x01\x01c", "\x00" + none[3:], 200, api.ErrType},
		{"a function's name", "\x01M\x00\x00\x00\x01", "\x00\x00\x03num\x00\x00" + none[4:], 24, api.ErrName},
		{"a parameter", "\x01m\x00\x00\x00\x01\x00\x01", "\x00\x03num\x01\x00" + none[4:], 200, api.ErrType},
		{"a later one", "\x01m\x00\x00\x00\x01\x00\x02\x03num", "\x00\x03num\x02\x00" + none[4:], 200, api.ErrType},
		{"a result", "\x01m\x00\x00\x00\x01\x00\x00\x00", "\x00\x00" + none[4:], 200, api.ErrType},
		{"an export", "\x01m\x00\x00\x00\x00\x01", none[5:], 24, api.ErrNone},
		{"a symbol's module", "\x01m\x00\x00\x00\x00\x00\x01", "\x02\x01c\x03num" + none[6:], 24, api.ErrName},
		{"a symbol's name", "\x01m\x00\x00\x00\x00\x00\x01\x01n\x02", "\x03num" + none[6:], 24, api.ErrName},
		{"a symbol's type", "\x01m\x00\x00\x00\x00\x00\x01\x01n\x02\x01c", none[6:], 200, api.ErrType},
		{"a number as a symbol's type", "\x01m\x00\x00\x00\x00\x00\x01\x01m\x03\x00", none[6:], 200, api.ErrRef},
		{"a symbol's field", "\x01m\x00\x00\x00\x00\x00\x01\x01n\x01\x01T\x01\x01A\x01", none[6:], 200, api.ErrType},
	} {
		for _, n := range []int{0, 1, c.most - 1, c.most} {
			if n == 0 && c.what == "a function's name" {
				continue
			}
			wantRefused(t, []byte(c.ahead+string(binary.AppendUvarint(nil, uint64(n)))+strings.Repeat("?", n)+c.behind), c.why, 0)
		}
		for _, n := range []int{c.most + 1, 255, 256, 65535, 65536, 1 << 32, 1<<32 + 1} {
			b := append([]byte(c.ahead), string(binary.AppendUvarint(nil, uint64(n)))...)
			wantRefused(t, b, api.ErrLong, len(c.ahead))
			wantRefused(t, append(b, strings.Repeat("a", 300)...), api.ErrLong, len(c.ahead))
		}
	}
}

// P14.2: code is no longer than a number may be for the Reader, and than MaxCode for Right.
func TestDecodeCode(t *testing.T) {
	ahead := "\x01m\x00\x00\x00\x01\x00\x00\x00\x03num\x00"
	for _, n := range []int{0, 1, 127, 128, 2047, 2048} {
		b := append(binary.AppendUvarint([]byte(ahead), uint64(n)), strings.Repeat("?", n)+"\x00\x00\x00"...)
		if why := wantAsByThrows(t, b); why != api.OK {
			t.Errorf("code of %d bytes: %v", n, why)
		}
	}
	for _, n := range []int{2049, 4000, 8000} {
		b := append(binary.AppendUvarint([]byte(ahead), uint64(n)), strings.Repeat("?", n)+"\x00\x00\x00"...)
		wantRefused(t, b, api.ErrLong, 0)
		wantRefused(t, append(b, 0), api.ErrTail, len(b))
		wantRefused(t, b[:len(b)-1], api.ErrEnd, len(b)-1)
		wantRefused(t, b[:len(b)-4], api.ErrEnd, len(b)-4)
	}
}

// P14.2: what is too long is refused at 0 ahead of all else.
func TestDecodeLong(t *testing.T) {
	for _, s := range []string{"\x00", "\x01m", "\xff", "\x01M\xff\xff\xff", ordinaryBytes} {
		b := slices.Concat([]byte(s), bytes.Repeat([]byte{0}, 8193-len(s)))
		wantRefused(t, b, api.ErrLong, 0)
		wantRefused(t, append(b, make([]byte, 1<<20)...), api.ErrLong, 0)
		if why := wantAsByThrows(t, b[:8192]); why == api.OK {
			t.Errorf("%.20x is let by", b)
		}
	}
	wantRefused(t, append([]byte(ordinaryBytes), make([]byte, 8192-len(ordinaryBytes))...), api.ErrTail, len(ordinaryBytes))
}

// P14.2: what the Reader refuses comes ahead of what Right does, wherever they stand; what Right refuses is told at 0.
func TestDecodeOrder(t *testing.T) {
	for b, want := range map[string]refusal{
		"\x01M\x00\x00\x00\x00\x00\x00\x00":                                             {api.ErrName, 0},
		"\x01M\x00\x00\x00\x00\x00\x00\x00x":                                            {api.ErrTail, 9},
		"\x01M\x00\x00\x00\x00\x00\x00":                                                 {api.ErrEnd, 8},
		"\x01M\x00\x00\x00\x00\x00\x00\x80\x00":                                         {api.ErrForm, 8},
		"\x01M\x80\x80\x04":                                                             {api.ErrLong, 2},
		"\x01m\x00\x03\x03num\x03num\x01?\x00\x00\x00\x00\x00":                          {api.ErrType, 0},
		"\x01m\x00\x01\x01?\x00\x00\x00\x00\x01\x00\x00":                                {api.ErrEnd, 13},
		"\x01m\x00\x01\x01?\x00\x00\x00\x00\x01\x00\x00\x80\x80\x80\x01":                {api.ErrLong, 13},
		"\x01m\x00\x00\x00\x01\x00\x00\x09\x03num\x00\x00\x00\x00\x00":                  {api.ErrCount, 0},
		"\x01m\x00\x00\x00\x01\x00\x00\x09\x03num\x00\x00\x00\x00\x00\x00":              {api.ErrTail, 18},
		"\x01m\x00\x00\x00\x00\x01\x01f\x00\x00":                                        {api.ErrNone, 0},
		"\x01m\x00\x00\x00\x00\x00\x01\x01m\x03\x00\x010\x00":                           {api.ErrRef, 0},
		"\x01m\x00\x00\x00\x00\x00\x00\x01\x00\x00\x00":                                 {api.ErrRef, 0},
		"\x01m\x02\x01\x01T\x01\x01A\x00\x01\x01T\x01\x01A\x00\x00\x00\x00":             {api.ErrEnd, 20},
		"\x01m\x02\x01\x01T\x01\x01A\x00\x01\x01T\x01\x01A\x00\x00\x00\x00\x00\x00\x00": {api.ErrTaken, 0},
	} {
		wantRefused(t, []byte(b), want.why, want.at)
	}
}

// P14.2: the bytes of what Right refuses are refused as it does, at 0.
func TestDecodeWrongs(t *testing.T) {
	met := map[api.Errno]int{}
	for _, c := range wrongs() {
		if b := bytesByHand(c.o); len(b) <= api.MaxObject {
			met[wantAsByThrows(t, b)]++
		}
	}
	for _, why := range []api.Errno{api.ErrLong, api.ErrMany, api.ErrForm, api.ErrName, api.ErrTaken, api.ErrNone, api.ErrType, api.ErrCount, api.ErrRef} {
		if met[why] == 0 {
			t.Errorf("none is %v", why)
		}
	}
}

// R1: numbers within numbers, that tell of far more than there are bytes.
func TestDecodeEnds(t *testing.T) {
	most := "\xff\xff\x03"
	for _, deep := range []string{
		"\x01m" + most + "\x01\x01T" + most + "\x01A" + most,
		"\x01m\x00\x00\x00" + most + "\x00" + most,
		"\x01m\x00\x00\x00\x00\x00" + most + "\x01n\x01\x01T" + most + "\x01A" + most,
		"\x01m" + strings.Repeat(most, 5),
	} {
		for n := range len(deep) {
			wantAsByThrows(t, []byte(deep[:n]))
		}
		for _, s := range []string{"", "\x00", "\x03num", "\xff", strings.Repeat("\x00", 8000), strings.Repeat("\x01", 8000), "\x80\x80\x80\x80", strings.Repeat("\xff", 10), "\xc9\x01"} {
			wantAsByThrows(t, []byte(deep+s))
		}
	}
	for k := range 256 {
		for _, n := range []int{1, 10, 100, 8192} {
			wantAsByThrows(t, bytes.Repeat([]byte{byte(k)}, n))
		}
	}
}
