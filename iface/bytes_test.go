package iface_test

import (
	"bytes"
	"encoding/binary"
	"slices"
	"strings"
	"testing"

	"hawser/api"
	"hawser/iface"
)

func wantRefused(t *testing.T, b []byte, why api.Errno, at int) {
	t.Helper()
	got, gotWhy, gotAt := iface.Decode(b)
	if told(got) != told(api.Iface{}) || gotWhy != why || gotAt != at {
		t.Errorf("Decode(%.100x) of %d bytes: %.200s, %v at %d, want %v at %d", b, len(b), told(got), gotWhy, gotAt, why, at)
	}
}

// wantAsByThrows: Decode answers of b what the model does, and what it takes Encode writes as b.
func wantAsByThrows(t *testing.T, b []byte) api.Errno {
	t.Helper()
	want, why, at := decodeByThrows(b)
	if why != api.OK {
		wantRefused(t, b, why, at)
		return why
	}
	got, gotWhy, gotAt := iface.Decode(b)
	if told(got) != told(want) || gotWhy != api.OK || gotAt != 0 {
		t.Errorf("Decode(%.100x): %.200s, %v at %d, want %.200s", b, told(got), gotWhy, gotAt, told(want))
	}
	if again, why := iface.Encode(got); !bytes.Equal(again, b) || why != api.OK {
		t.Errorf("Encode of Decode(%.100x): %.100x, %v", b, again, why)
	}
	return why
}

// P7.3: the bytes of each kind of item.
func TestEncode(t *testing.T) {
	for want, i := range map[string]api.Iface{
		"\x01m\x00":                              with(),
		"\x02ab\x00":                             {Module: "ab"},
		"\x01m\x01\x01\x01T\x01\x01A\x00":        with(typeItem("T", caseOf("A"))),
		"\x01m\x01\x02\x01c\x03num":              with(constItem("c", "num")),
		"\x01m\x01\x03\x02ff\x05()num":           with(funItem("ff", "()num")),
		"\x01m\x01\x01\x01T\x01\x01A\x01\x03num": with(typeItem("T", caseOf("A", "num"))),
		"\x01m\x02\x01\x01T\x02\x01B\x02\x05bytes\x05[m.T]\x02Aa\x00\x02\x01c\x08(num)m.T": with(typeItem("T", caseOf("B", "bytes", "[m.T]"), caseOf("Aa")), constItem("c", "(num)m.T")),
		"\x01m\x01\x02\x01c\xc8\x01" + longType:                                            with(constItem("c", longType)),
	} {
		if b, why := iface.Encode(i); string(b) != want || why != api.OK {
			t.Errorf("Encode(%.200s): %x, %v, want %x", told(i), b, why, want)
		}
		wantRound(t, i, []byte(want))
	}
}

// P7.3: bytes that are cut off at each place, and with more behind them.
func TestDecodeCutOff(t *testing.T) {
	for _, i := range rights() {
		b := bytesByHand(i)
		for n := range b {
			if len(b) < 4000 || n%7 == 0 {
				wantRefused(t, b[:n:n], api.ErrEnd, n)
				wantRefused(t, b[:n], api.ErrEnd, n)
			}
		}
		for k := range 256 {
			wantRefused(t, append(slices.Clip(b), byte(k)), api.ErrTail, len(b))
		}
		wantRefused(t, slices.Concat(b, b), api.ErrTail, len(b))
	}
}

// P7.3: each byte turned to each other one, taken away, or doubled.
func TestDecodeTurned(t *testing.T) {
	seen := map[api.Errno]int{}
	for _, i := range rights() {
		b := bytesByHand(i)
		if len(b) > 300 {
			continue
		}
		for n := range b {
			for k := range 256 {
				x := slices.Clone(b)
				x[n] = byte(k)
				seen[wantAsByThrows(t, x)]++
			}
			seen[wantAsByThrows(t, slices.Concat(b[:n], b[n+1:]))]++
			seen[wantAsByThrows(t, slices.Concat(b[:n], b[n:n+1], b[n:]))]++
		}
	}
	for _, why := range []api.Errno{api.OK, api.ErrEnd, api.ErrTail, api.ErrLong, api.ErrForm, api.ErrName, api.ErrType} {
		if seen[why] < 100 {
			t.Errorf("too few are %v: %d", why, seen[why])
		}
	}
}

// numbered is what stands ahead of a number and, if that tells of none, behind it; at 65535 Right refuses with why.
type numbered struct {
	ahead, each, behind string
	why                 api.Errno
}

// P7.3: numbers of 65535, and above; whatever Right would say of the rest.
func TestDecodeNumbers(t *testing.T) {
	for _, c := range []numbered{
		{"\x01m", "\x02\x01c\x03num", "", api.ErrMany},
		{"\x01M", "\x09\x01?\x00", "", api.ErrName},
		{"\x01m\x01\x01\x01T", "\x01A\x00", "", api.ErrForm},
		{"\x01m\x01\x01\x01t", "\x00\x00", "", api.ErrName},
		{"\x01m\x01\x01\x01T\x01\x01A", "\x03num", "", api.ErrCount},
		{"\x01m\x01\x01\x01T\x02\x01A", "\x00", "\x01a\x00", api.ErrCount},
		{"\x01m\x01", "", "\x01c\x03num", api.ErrForm},
		{"\x01m\x02\x02\x01c\x03num", "", "\x01f\x05()num", api.ErrForm},
	} {
		for n := uint64(65534); n <= 65537; n++ {
			b := binary.AppendUvarint([]byte(c.ahead), n)
			if n > 65535 {
				wantRefused(t, b, api.ErrLong, len(c.ahead))
				wantRefused(t, append(b, c.behind...), api.ErrLong, len(c.ahead))
				continue
			}
			b = append(append(b, strings.Repeat(c.each, int(n))...), c.behind...)
			wantRefused(t, b, c.why, 0)
			wantRefused(t, append(b, 0), api.ErrTail, len(b))
			wantRefused(t, b[:len(b)-1], api.ErrEnd, len(b)-1)
		}
		for _, n := range []uint64{1 << 20, 1 << 31, 1<<32 + 1, 1<<63 + 1, 1<<64 - 1} {
			wantRefused(t, append(binary.AppendUvarint([]byte(c.ahead), n), c.behind...), api.ErrLong, len(c.ahead))
		}
		wantRefused(t, []byte(c.ahead+"\x81\x00"+c.each+c.behind), api.ErrForm, len(c.ahead))
		wantRefused(t, []byte(c.ahead+strings.Repeat("\xff", 10)+c.each+c.behind), api.ErrForm, len(c.ahead))
	}
}

// P7.3: how long a name and a type may be, at each place; what is longer is refused ahead of what Right would say.
func TestDecodeTexts(t *testing.T) {
	for _, c := range []struct {
		ahead, behind string
		most          int
		why           api.Errno
	}{
		{"", "\x00", 24, api.ErrName},
		{"\x01m\x01\x02", "\x03num", 24, api.ErrName},
		{"\x01M\x01\x09", "\x03num", 24, api.ErrName},
		{"\x01m\x01\x01", "\x01\x01A\x00", 24, api.ErrName},
		{"\x01m\x01\x01\x01T\x01", "\x00", 24, api.ErrName},
		{"\x01m\x01\x02\x01c", "", 200, api.ErrType},
		{"\x01m\x01\x03\x01c", "", 200, api.ErrType},
		{"\x01m\x01\x00\x01c", "", 200, api.ErrForm},
		{"\x01m\x01\x01\x01T\x01\x01A\x01", "", 200, api.ErrType},
		{"\x01m\x01\x01\x01T\x01\x01A\x02\x03num", "", 200, api.ErrType},
	} {
		for _, n := range []int{0, 1, c.most - 1, c.most} {
			wantRefused(t, []byte(c.ahead+string(binary.AppendUvarint(nil, uint64(n)))+strings.Repeat("?", n)+c.behind), c.why, 0)
		}
		for _, n := range []int{c.most + 1, 255, 256, 65535, 65536, 1 << 32, 1<<32 + 1} {
			b := append([]byte(c.ahead), string(binary.AppendUvarint(nil, uint64(n)))...)
			wantRefused(t, b, api.ErrLong, len(c.ahead))
			wantRefused(t, append(b, strings.Repeat("a", 300)...), api.ErrLong, len(c.ahead))
		}
	}
}

// P7.3: what the Reader refuses comes ahead of what Right does, wherever they stand.
func TestDecodeOrder(t *testing.T) {
	for b, want := range map[string]refusal{
		"\x01M\x00x":                            {api.ErrTail, 3},
		"\x01M":                                 {api.ErrEnd, 2},
		"\x01M\x01\x00":                         {api.ErrEnd, 4},
		"\x01m\x02\x00\x00\x00\x02\x01c\x04num": {api.ErrEnd, 13},
		"\x01m\x02\x02\x01c\x00\x02\x01c\xc9\x01": {api.ErrLong, 10},
		"\x01m\x01\x01\x01t\x01\x01a\x80\x00":     {api.ErrForm, 9},
		"\x01m\x01\x01\x01T\x00":                  {api.ErrForm, 0},
		"\x01m\x01\x01\x01T\x00\x00":              {api.ErrTail, 7},
		"\x01m\x01\x00\x01T\x00":                  {api.ErrForm, 0},
		"\x01m\x01\x04\x01c\x03num":               {api.ErrForm, 0},
		"\x01m\x01\x03\x01c\x03num":               {api.ErrType, 0},
	} {
		wantRefused(t, []byte(b), want.why, want.at)
	}
}

// R1: numbers within numbers, that tell of far more than there are bytes.
func TestDecodeEnds(t *testing.T) {
	most := "\xff\xff\x03"
	deep := "\x01m" + most + "\x01\x01T" + most + "\x01A" + most
	for n := range len(deep) {
		wantAsByThrows(t, []byte(deep[:n]))
	}
	for _, s := range []string{"", "\x00", "\x03num", "\xff", strings.Repeat("\x00", 65534), strings.Repeat("\x00", 65535), strings.Repeat("\x00", 1<<20), "\x80\x80\x80\x80", strings.Repeat("\xff", 10), "\xc9\x01"} {
		wantAsByThrows(t, []byte(deep+s))
	}
	wantRefused(t, []byte("\x01m"+most+strings.Repeat("\x01\x01T"+most+strings.Repeat("\x00\x00", 65535), 20)), api.ErrEnd, 5+20*(6+2*65535))
}
