package cover_test

import (
	"fmt"
	"slices"
	"strings"
	"testing"
	"unsafe"

	"hawser/api"
	"hawser/cover"
)

// asked are cases and names of which something is Missing, Extra and Twice.
func asked() ([]api.Case, []string) {
	cases := []api.Case{{Name: "B", Fields: []string{"num", "m.T"}}, {Name: "A"}, {Name: "C", Fields: []string{"bytes"}}, {Name: "A"}, {Name: ""}}
	return cases, []string{"m.C", "D", "n.D", "x.y.C", "C", "D.", "."}
}

// answers are all that the calls tell of these.
func answers(cases []api.Case, names []string) string {
	told := fmt.Sprintf("%q %q %q", cover.Missing(cases, names), cover.Extra(cases, names), cover.Twice(names))
	for _, name := range append([]string{"A", "B", "m.A", "Z", ""}, names...) {
		told += fmt.Sprint(" ", cover.Number(cases, name))
	}
	return told
}

// roomy is l with room behind it, that holds what x says.
func roomy[E any](l []E, x E) []E { return append(slices.Clip(l), x, x)[:len(l)] }

// roomyAsked are asked's, with room behind each list, that would change each answer.
func roomyAsked() ([]api.Case, []string) {
	cases, names := asked()
	for k, c := range cases {
		cases[k].Fields = roomy(c.Fields, "spare.A")
	}
	return roomy(cases, api.Case{Name: "D", Fields: []string{"spare.A"}}), roomy(names, "m.A")
}

// whole tells all of cases and names, spare room included.
func whole(cases []api.Case, names []string) string {
	told := fmt.Sprintf("%q %q", cases[:cap(cases)], names[:cap(names)])
	for _, c := range cases {
		told += fmt.Sprintf(" %q", c.Fields[:cap(c.Fields)])
	}
	return told
}

// scribble writes over a list, spare room included.
func scribble(l []string) {
	for k := range l[:cap(l)] {
		l[:cap(l)][k] = "scribbled"
	}
}

// R2, R5: what was handed in stands as it was behind each call, and what is behind the lists' ends is not read.
func TestChangesNothing(t *testing.T) {
	plain, plainNames := asked()
	cases, names := roomyAsked()
	ahead := whole(cases, names)
	calls := map[string]func() string{
		"Missing": func() string { return fmt.Sprintf("%q", cover.Missing(cases, names)) },
		"Extra":   func() string { return fmt.Sprintf("%q", cover.Extra(cases, names)) },
		"Twice":   func() string { return fmt.Sprintf("%q", cover.Twice(names)) },
		"Number":  func() string { return fmt.Sprint(cover.Number(cases, "m.D")) },
	}
	wants := map[string]string{
		"Missing": `["B" "A" "A"]`,
		"Extra":   `["D" "n.D"]`,
		"Twice":   `["n.D" "x.y.C" "C" "."]`,
		"Number":  "-1",
	}
	for name, call := range calls {
		if got := call(); got != wants[name] {
			t.Errorf("%s: %s, want %s", name, got, wants[name])
		}
		if now := whole(cases, names); now != ahead {
			t.Errorf("%s: %s, was %s", name, now, ahead)
		}
	}
	if got, want := answers(cases, names), answers(plain, plainNames); got != want {
		t.Errorf("with spare room: %s, want %s", got, want)
	}
}

// R2: what is answered may be changed, spare room included: what was handed in and other answers stand as they were.
func TestAnswersMayBeChanged(t *testing.T) {
	cases, names := roomyAsked()
	ahead, told := whole(cases, names), answers(cases, names)
	kept := [][]string{cover.Missing(cases, names), cover.Extra(cases, names), cover.Twice(names)}
	keptAhead := fmt.Sprintf("%q", kept)
	scribble(cover.Missing(cases, names))
	scribble(cover.Extra(cases, names))
	scribble(cover.Twice(names))
	if now := whole(cases, names); now != ahead {
		t.Errorf("%s, was %s", now, ahead)
	}
	if now := fmt.Sprintf("%q", kept); now != keptAhead {
		t.Errorf("%s, was %s", now, keptAhead)
	}
	if now := answers(cases, names); now != told {
		t.Errorf("%s, was %s", now, told)
	}
}

// R2: what was handed in may be changed: answers stand as they were, and later calls see the change.
func TestKeepsNothing(t *testing.T) {
	cases, names := roomyAsked()
	kept := [][]string{cover.Missing(cases, names), cover.Extra(cases, names), cover.Twice(names)}
	ahead := fmt.Sprintf("%q", kept)
	scribble(names)
	for k := range cases {
		cases[k].Name = "scribbled"
	}
	if now := fmt.Sprintf("%q", kept); now != ahead {
		t.Errorf("%s, was %s", now, ahead)
	}
	wantMissing(t, cases, names)
	wantExtra(t, cases, names)
	wantTwice(t, names, slices.Repeat([]string{"scribbled"}, len(names)-1)...)
	wantNumber(t, cases, "scribbled", 0)
	wantNumber(t, cases, "A", -1)
}

// wantNoPieces: no text of an answer is a piece of one that was handed in.
func wantNoPieces(t *testing.T, answer, given []string) {
	t.Helper()
	for _, piece := range answer {
		for _, text := range given {
			from, at := uintptr(unsafe.Pointer(unsafe.StringData(text))), uintptr(unsafe.Pointer(unsafe.StringData(piece)))
			if piece != "" && from <= at && at < from+uintptr(len(text)) {
				t.Errorf("%q is a piece of what was handed in", piece)
			}
		}
	}
}

// R2: no text of what is handed in is answered.
func TestTextsAreNew(t *testing.T) {
	long := strings.Repeat("long", 100)
	cases, names := casesOf("A", long, "B"), []string{"m.B", "C", "m." + long + "C", "C", "B", "m." + long + "C"}
	given := append(namesOf(cases), names...)
	wantNoPieces(t, cover.Missing(cases, names), given)
	wantNoPieces(t, cover.Extra(cases, names), given)
	wantNoPieces(t, cover.Twice(names), given)
}

// R4: the same call again answers the same, whatever was asked in between.
func TestSameAgain(t *testing.T) {
	cases, names := asked()
	want := answers(cases, names)
	for n := range 200 {
		other := slices.Repeat([]string{"A", "m.Z", "B"}, n%5)
		answers(casesOf(other...), other)
		if got := answers(cases, names); got != want {
			t.Fatalf("again: %s, was %s", got, want)
		}
	}
}
