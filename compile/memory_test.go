package compile_test

import (
	"bytes"
	"fmt"
	"slices"
	"strings"
	"testing"
	"unsafe"

	"hawser/api"
	"hawser/compile"
)

// roomy is l with room behind it, that holds x.
func roomy[E any](l []E, x E) []E { return append(slices.Clip(l), x, x, x)[:len(l)] }

// roomyIfaces has room behind each list, with an interface in it that would be refused.
func roomyIfaces(l [][]byte) [][]byte {
	for k := range l {
		l[k] = roomy(l[k], 0x80)
	}
	return roomy(l, []byte{0x80, 0})
}

// whole tells all of l, spare room included.
func whole(l [][]byte) string {
	s := fmt.Sprintf("%d of %x", len(l), l[:cap(l)])
	for _, b := range l {
		s += fmt.Sprintf(" %d of %x", len(b), b[:cap(b)])
	}
	return s
}

// sources are such as are made, and such as are refused by each step.
func sources() []string {
	var l []string
	for source := range ordinaries() {
		l = append(l, source)
	}
	slices.Sort(l)
	for _, one := range slices.Concat(unread(), untyped()) {
		l = append(l, one.source())
	}
	for _, one := range much() {
		l = append(l, within(one.marked))
	}
	return l
}

// R2, R4, R5: what is handed in stands as it was, spare room too; the same again answers the same, and spare room tells nothing.
func TestUnchanged(t *testing.T) {
	for _, source := range sources() {
		for _, more := range [][][]byte{nil, {{1}}} {
			want := told(compile.Source(source, append(others(), more...)))
			ifaces := roomyIfaces(append(others(), more...))
			ahead, text := whole(ifaces), strings.Clone(source)
			for range 2 {
				if got := told(compile.Source(source, ifaces)); got != want {
					t.Errorf("%.300s with spare room: %.500s, want %.500s", source, got, want)
				}
				compile.Name(source)
				if whole(ifaces) != ahead || source != text {
					t.Errorf("%.300s: something was changed", source)
				}
			}
		}
	}
}

// toldCheck tells what Check answers.
func toldCheck(b []byte, ifaces [][]byte) string { return fmt.Sprintln(compile.Check(b, ifaces)) }

// R2, R4, R5: so it is with objects.
func TestObjectsUnchanged(t *testing.T) {
	var objects [][]byte
	for _, one := range hurts(t) {
		objects = append(objects, one.b, append(bytes.Clone(one.b), 0), one.b[:9])
	}
	for b := range scraps() {
		objects = append(objects, []byte(b))
	}
	for source := range ordinaries() {
		objects = append(objects, compile.Source(source, others()).Object)
	}
	for _, b := range objects {
		for _, more := range [][][]byte{nil, {{1}}} {
			want := toldCheck(b, append(others(), more...))
			given, ifaces := roomy(bytes.Clone(b), 0), roomyIfaces(append(others(), more...))
			ahead := whole(append(ifaces, given))
			for range 2 {
				if got := toldCheck(given, ifaces); got != want {
					t.Errorf("%.300x with spare room: %s, want %s", b, got, want)
				}
				if whole(append(ifaces, given)) != ahead {
					t.Errorf("%.300x: something was changed", b)
				}
			}
		}
	}
}

// R4: empty lists mean the same as none.
func TestEmptyLists(t *testing.T) {
	for _, source := range sources() {
		if got, want := told(compile.Source(source, [][]byte{})), told(compile.Source(source, nil)); got != want {
			t.Errorf("%.300s: %.500s, want %.500s", source, got, want)
		}
		if got, want := told(compile.Source(source, [][]byte{shown("n"), {}})), told(compile.Source(source, [][]byte{shown("n"), nil})); got != want {
			t.Errorf("%.300s: %.500s, want %.500s", source, got, want)
		}
	}
	for _, one := range hurts(t) {
		if got, want := toldCheck(one.b, [][]byte{}), toldCheck(one.b, nil); got != want {
			t.Errorf("%s, want %s", got, want)
		}
		if got, want := toldCheck(one.b, [][]byte{shown("n"), {}}), toldCheck(one.b, [][]byte{shown("n"), nil}); got != want {
			t.Errorf("%s, want %s", got, want)
		}
	}
	if got, want := toldCheck([]byte{}, nil), toldCheck(nil, [][]byte{}); got != want {
		t.Errorf("%s, want %s", got, want)
	}
	wantRefused(t, "", nil, api.ErrForm, 0, "")
	wantName(t, "", "")
}

func scribble[E any](l []E, x E) {
	for k := range l[:cap(l)] {
		l[:cap(l)][k] = x
	}
}

// R2: an object and an interface share no memory, spare room too, with one another, with what was handed in, or with another answer.
func TestAnswersApart(t *testing.T) {
	for source := range ordinaries() {
		ifaces := others()
		ahead := whole(ifaces)
		first := wantMade(t, source, ifaces)
		want := told(first)
		one, other := compile.Source(source, ifaces), compile.Source(source, ifaces)
		scribble(one.Object, 0xee)
		if !bytes.Equal(one.Iface, first.Iface) {
			t.Errorf("%s: the interface shares memory with the object", source)
		}
		scribble(other.Iface, 0xee)
		if !bytes.Equal(other.Object, first.Object) {
			t.Errorf("%s: the object shares memory with the interface", source)
		}
		if again := told(compile.Source(source, ifaces)); again != want || told(first) != want || whole(ifaces) != ahead {
			t.Errorf("%s: %s, %s, was %s", source, again, told(first), want)
		}
	}
}

// R2: what is handed in is not kept: no answer turns when it does.
func TestKeepsNothing(t *testing.T) {
	for source := range ordinaries() {
		ifaces := roomyIfaces(others())
		r := compile.Source(source, ifaces)
		want := told(r)
		for _, b := range ifaces {
			scribble(b, 0xee)
		}
		scribble(ifaces, nil)
		if told(r) != want {
			t.Errorf("%s: %s, was %s", source, told(r), want)
		}
		wantRefused(t, source, ifaces, api.ErrEnd, 0, "")
		if got := told(compile.Source(source, others())); got != want {
			t.Errorf("%s: %s, was %s", source, got, want)
		}
	}
}

// wantNew: a text that was answered is no piece of one that was handed in.
func wantNew(t *testing.T, piece, given string) {
	t.Helper()
	from, at := uintptr(unsafe.Pointer(unsafe.StringData(given))), uintptr(unsafe.Pointer(unsafe.StringData(piece)))
	if piece != "" && from <= at && at < from+uintptr(len(given)) {
		t.Errorf("%.300s: %q is a piece of it", given, piece)
	}
}

// R2: no name that is answered is a piece of the source.
func TestNamesAreNew(t *testing.T) {
	for _, source := range sources() {
		wantNew(t, compile.Name(source), source)
		wantNew(t, compile.Source(source, others()).Name, source)
	}
}

// R1: whatever is handed in, calls end.
func TestAnything(t *testing.T) {
	long := bytes.Repeat([]byte{1}, 1<<20)
	deep := append([]byte("\x01n\x01\x02\x01c\x80\x80\x04"), bytes.Repeat([]byte{'['}, 1<<16)...)
	texts := []string{strings.Repeat("(", 1<<16), strings.Repeat("(", 4096) + strings.Repeat(")", 4096), strings.Repeat("((", 1<<20), "(module m" + strings.Repeat("()", 4090) + ")", "(module m " + strings.Repeat("(let x ", 39), strings.Repeat("\x00", 8192), strings.Repeat("\"", 8191), "(module m (import" + strings.Repeat(" n", 4000) + "))"}
	for _, text := range texts {
		for _, ifaces := range [][][]byte{nil, {nil}, {long}, {deep}, slices.Repeat(others(), 5000)} {
			if r := compile.Source(text, ifaces); r.Why == api.OK {
				t.Errorf("%.50s was made", text)
			}
		}
		wantName(t, text, map[bool]string{true: "m"}[strings.HasPrefix(text, "(module m") && strings.HasSuffix(text, ")")])
	}
	wantRefused(t, "(module m)", [][]byte{shown("n"), long}, api.ErrTail, 1, "")
	wantRefused(t, "(module m)", [][]byte{shown("n"), deep}, api.ErrLong, 1, "")
	for _, b := range [][]byte{nil, long, deep, []byte(texts[5]), []byte(texts[0])} {
		for _, ifaces := range [][][]byte{nil, {nil}, {long}, {deep}, slices.Repeat(others(), 5000)} {
			if why, _, _ := compile.Check(b, ifaces); why == api.OK {
				t.Errorf("%.50x was let by", b)
			}
		}
	}
}
