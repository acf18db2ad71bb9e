package code_test

import (
	"slices"
	"strings"
	"testing"
	"unsafe"

	"hawser/api"
	"hawser/code"
)

// roomy is a copy of a list with spare room behind it, which is filled with x.
func roomy[E any](l []E, x E) []E {
	room := append(slices.Clone(l), x, x, x)
	return room[:len(l)]
}

// roomyList has spare room in each of its lists.
func roomyList(l []code.Inst) []code.Inst {
	out := roomy(l, code.Inst{At: 77, Op: code.Ret, Text: "spare"})
	for k := range out {
		out[k].To = roomy(out[k].To, 88)
		out[k].Text = strings.Clone(out[k].Text)
	}
	return out
}

// whole tells a list with the spare room of each of its lists.
func whole(l []code.Inst) string {
	all := slices.Clone(l[:cap(l)])
	for k := range all {
		all[k].To = all[k].To[:cap(all[k].To)]
	}
	return told(all)
}

// lists are right ones, and such as are refused.
func lists() (all [][]code.Inst) {
	var l []code.Inst
	end := 0
	for _, c := range ones() {
		l = append(l, moved(c.inst, end))
		end += len(c.bytes)
	}
	return append(all, nil, l, append(slices.Clone(l), code.Inst{At: end, Op: 99}), append(slices.Clone(l), code.Inst{At: end, Op: code.Switch, A: 2, To: []int{end, end}}), rets(api.MaxCode+1))
}

func bytesOfAll() string {
	b := ""
	for _, c := range ones() {
		b += c.bytes
	}
	return b
}

// R2, R4: lists that are handed in stand as they were, spare room too, and the same again answers the same.
func TestListsUnchanged(t *testing.T) {
	for k, l := range lists() {
		given := roomyList(l)
		ahead := whole(given)
		b, why := code.Encode(given)
		refs := code.Refs(given)
		if whole(given) != ahead {
			t.Errorf("list %d was changed", k)
		}
		again, whyAgain := code.Encode(given)
		if string(again) != string(b) || whyAgain != why {
			t.Errorf("list %d: Encode again: % x, %v, was % x, %v", k, again, whyAgain, b, why)
		}
		if got := code.Refs(given); !slices.Equal(got, refs) {
			t.Errorf("list %d: Refs again: %v, was %v", k, got, refs)
		}
		if bare, whyBare := code.Encode(l); string(bare) != string(b) || whyBare != why {
			t.Errorf("list %d: its spare room tells: % x, %v, else % x, %v", k, b, why, bare, whyBare)
		}
	}
}

// R2, R4: so do bytes.
func TestBytesUnchanged(t *testing.T) {
	all := bytesOfAll()
	for _, s := range []string{"", all, all + "\x05", all + "\x00", "\x0b\x00", "\x02\x05abc", strings.Repeat("\x0f", api.MaxCode+1)} {
		given := roomy([]byte(s), 0)
		l, why, at := code.Decode(given)
		if string(given) != s || string(given[:cap(given)][len(s):len(s)+3]) != "\x00\x00\x00" {
			t.Errorf("% x was changed", s)
		}
		again, whyAgain, atAgain := code.Decode(given)
		if told(again) != told(l) || whyAgain != why || atAgain != at {
			t.Errorf("% x: Decode again: %s, %v at %d", s, told(again), whyAgain, atAgain)
		}
		if bare, whyBare, atBare := code.Decode([]byte(s)); told(bare) != told(l) || whyBare != why || atBare != at {
			t.Errorf("% x: its spare room tells", s)
		}
	}
}

// R2: nothing that is handed in is kept, in the answer or from call to call.
func TestNothingKept(t *testing.T) {
	all := bytesOfAll()
	given := []byte(all)
	l, _, _ := code.Decode(given)
	ahead := told(l)
	for k := range given {
		given[k] = 0xee
	}
	if told(l) != ahead {
		t.Errorf("Decode keeps its bytes")
	}
	wantDecoded(t, "the same bytes again", all, l)

	mine := roomyList(l)
	b, _ := code.Encode(mine)
	refs := code.Refs(mine)
	for k := range mine {
		for n := range mine[k].To {
			mine[k].To[n] = -1
		}
		mine[k] = code.Inst{Op: 99}
	}
	if string(b) != all {
		t.Errorf("Encode keeps its list")
	}
	wantEncoded(t, "the same list again", l, all)
	if got := code.Refs(l); !slices.Equal(got, refs) {
		t.Errorf("Refs keeps its list: %v, was %v", refs, got)
	}
}

func scribble[E any](l []E, x E) {
	for k := range l[:cap(l)] {
		l[:cap(l)][k] = x
	}
}

// R2: each list of what Decode answers is memory of its own, spare room too.
func TestDecodedApart(t *testing.T) {
	all := bytesOfAll()
	want, _, _ := code.Decode([]byte(all))
	for k := range want {
		got, _, _ := code.Decode([]byte(all))
		if len(got[k].To) == 0 {
			continue
		}
		scribble(got[k].To, -9)
		for n := range got {
			if n != k && told(got[n:n+1]) != told(want[n:n+1]) {
				t.Errorf("To of %d shares memory with that of %d", n, k)
			}
		}
		wantDecoded(t, "behind an answer that was written over", all, want)
	}
	got, _, _ := code.Decode([]byte(all))
	ways := make([][]int, len(got))
	for k := range got {
		ways[k] = got[k].To
	}
	scribble(got, code.Inst{Op: -9})
	for k := range ways {
		if !slices.Equal(ways[k], want[k].To) {
			t.Errorf("To of %d shares memory with the list", k)
		}
	}
}

// R2: what Encode and Refs answer is new each time, spare room too.
func TestAnswersNew(t *testing.T) {
	l, _, _ := code.Decode([]byte(bytesOfAll()))
	first, _ := code.Encode(l)
	refs := code.Refs(l)
	wantRefs := slices.Clone(refs)
	scribble(first, 0xee)
	scribble(refs, -1)
	wantEncoded(t, "behind an answer that was written over", l, bytesOfAll())
	if got := code.Refs(l); !slices.Equal(got, wantRefs) {
		t.Errorf("Refs behind an answer that was written over: %v", got)
	}
}

// R2: a text of an answer is no piece of the bytes.
func TestTextsNew(t *testing.T) {
	b := []byte("\x02\x05hello\x02\x03abc")
	from := uintptr(unsafe.Pointer(unsafe.SliceData(b)))
	l, _, _ := code.Decode(b)
	for _, i := range l {
		if at := uintptr(unsafe.Pointer(unsafe.StringData(i.Text))); from <= at && at < from+uintptr(cap(b)) {
			t.Errorf("%q is a piece of the bytes", i.Text)
		}
	}
}
