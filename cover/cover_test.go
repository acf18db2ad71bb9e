package cover_test

import (
	"slices"
	"strings"
	"testing"

	"hawser/api"
	"hawser/cover"
)

// The chapter's runs.
func TestRuns(t *testing.T) {
	wantMissing(t, casesOf("A", "B"), []string{"m.B"}, "A")
	wantTwice(t, []string{"A", "m.A"}, "m.A")
}

// The chapter's examples.
func TestExamples(t *testing.T) {
	wantMissing(t, nil, nil)
	wantMissing(t, nil, []string{"A", "m.B", "A"})
	wantExtra(t, casesOf("A"), []string{"A"})
	wantNumber(t, casesOf("A", "B"), "B", 1)
}

// P10.1: unlike cases that are named once each, in every order, with and without a dot.
func TestNamedOnceEach(t *testing.T) {
	cases := casesOf("A", "B", "C")
	for _, order := range [][]int{{0, 1, 2}, {0, 2, 1}, {1, 0, 2}, {1, 2, 0}, {2, 0, 1}, {2, 1, 0}} {
		for dots := range 8 {
			var names []string
			for k, number := range order {
				name := cases[number].Name
				if dots>>k&1 == 1 {
					name = "m." + name
				}
				names = append(names, name)
				wantNumber(t, cases, name, number)
			}
			wantNothing(t, cases, names)
			wantAsByScan(t, cases, names)
		}
	}
}

// P10.1: Missing is in the cases' order, whatever the names' is.
func TestMissing(t *testing.T) {
	cases := casesOf("D", "A", "C", "B")
	wantMissing(t, cases, nil, "D", "A", "C", "B")
	wantMissing(t, cases, []string{"A"}, "D", "C", "B")
	wantMissing(t, cases, []string{"B", "m.C"}, "D", "A")
	wantMissing(t, cases, []string{"m.C", "B"}, "D", "A")
	wantMissing(t, cases, []string{"B", "B", "n.B"}, "D", "A", "C")
	wantMissing(t, cases, []string{"B", "C", "A", "D"})
	wantMissing(t, cases, []string{"X", "m.Y", "d", "AA", ""}, "D", "A", "C", "B")
	wantMissing(t, casesOf("A", "B", "A"), nil, "A", "B", "A")
	wantMissing(t, casesOf("A", "B", "A"), []string{"B"}, "A", "A")
	wantMissing(t, casesOf("A", "B", "A"), []string{"m.A"}, "B")
}

// P10.1: Extra is in the names' order, as they are, each time that one stands there.
func TestExtra(t *testing.T) {
	cases := casesOf("A", "B")
	wantExtra(t, cases, nil)
	wantExtra(t, cases, []string{"B", "m.A", "A", "B"})
	wantExtra(t, cases, []string{"Z", "A", "m.C", "B", "C"}, "Z", "m.C", "C")
	wantExtra(t, cases, []string{"C", "C", "n.C"}, "C", "C", "n.C")
	wantExtra(t, cases, []string{"a", "AA", "AB", "b", "A ", " A"}, "a", "AA", "AB", "b", "A ", " A")
	wantExtra(t, nil, []string{"B", "m.A", "B"}, "B", "m.A", "B")
	wantExtra(t, casesOf("A", "A"), []string{"A", "B"}, "B")
}

// P10.1: Twice is each name but the first of those that count alike, in order, as they are.
func TestTwice(t *testing.T) {
	wantTwice(t, nil)
	wantTwice(t, []string{"A"})
	wantTwice(t, []string{"A", "B", "m.C"})
	wantTwice(t, []string{"A", "A"}, "A")
	wantTwice(t, []string{"m.A", "A"}, "A")
	wantTwice(t, []string{"m.A", "n.A"}, "n.A")
	wantTwice(t, []string{"A", "m.A", "n.k.A", "A"}, "m.A", "n.k.A", "A")
	wantTwice(t, []string{"A", "B", "n.B", "m.A", "C"}, "n.B", "m.A")
	wantTwice(t, []string{"A", "B", "m.A", "n.B", "C"}, "m.A", "n.B")
	wantTwice(t, []string{"A", "a", "AA", "m.a"}, "m.a")
}

// P10.1: Number is the first case's of that name.
func TestNumber(t *testing.T) {
	cases := casesOf("C", "A", "B", "A", "C", "D")
	for name, want := range map[string]int{"C": 0, "A": 1, "B": 2, "D": 5, "m.C": 0, "m.A": 1, "n.k.D": 5, "A.B": 2, "B.A": 1} {
		wantNumber(t, cases, name, want)
	}
	for _, name := range []string{"", "E", "a", "AA", "CA", "m.E", "A.", "A.E", "A.m", ".", "..", "field.F", "F", "A ", "A\x00"} {
		wantNumber(t, cases, name, -1)
	}
	for _, name := range []string{"", ".", "A", "m.A"} {
		wantNumber(t, nil, name, -1)
		wantNumber(t, []api.Case{}, name, -1)
	}
}

// P10.1: what is ahead of the last dot does not count, whatever it is; no other byte is a dot.
func TestLastDot(t *testing.T) {
	cases := casesOf("B", "A")
	for _, ahead := range []string{"", ".", "..", "m.", "B.", "m.n.", "m..", ".m.", " .", "\xff.", "\x00.", "(.", "\u00e9.", strings.Repeat("m.", 1000), strings.Repeat(".", 1000)} {
		wantNumber(t, cases, ahead+"A", 1)
		wantMissing(t, cases, []string{ahead + "A"}, "B")
		wantExtra(t, cases, []string{ahead + "A", ahead + "C"}, ahead+"C")
		wantTwice(t, []string{"A", ahead + "A"}, ahead+"A")
		wantTwice(t, []string{ahead + "A", "A"}, "A")
	}
	for _, other := range []string{"m,A", "m:A", "m/A", "m A", "m\x00A", "m-A", "m\u2024A", "m\xaeA", "mA"} {
		wantNumber(t, cases, other, -1)
		wantMissing(t, cases, []string{other}, "B", "A")
		wantExtra(t, cases, []string{other}, other)
		wantTwice(t, []string{"A", other})
	}
}

// P10.1: of names alone what is ahead of the last dot does not count: a case's name, that has no dot in any source, is taken as it is.
func TestCaseWithDot(t *testing.T) {
	cases := casesOf("m.A", "A")
	for _, name := range []string{"A", "m.A", "n.m.A"} {
		wantNumber(t, cases, name, 1)
		wantMissing(t, cases, []string{name}, "m.A")
		wantExtra(t, cases, []string{name})
		wantExtra(t, cases[:1], []string{name}, name)
	}
}

// P10.1: names that are none: the empty one, dots alone, dots at the end.
func TestEmptyEndings(t *testing.T) {
	empty := []string{"", ".", "..", "A.", "m.A."}
	for _, name := range empty {
		wantNumber(t, casesOf("A", "B"), name, -1)
		wantNumber(t, casesOf("A", "", "B", ""), name, 1)
		wantMissing(t, casesOf("A", ""), []string{name}, "A")
		wantExtra(t, casesOf("A"), []string{name}, name)
		wantNothing(t, casesOf(""), []string{name})
	}
	wantTwice(t, empty, empty[1:]...)
	wantExtra(t, casesOf("A"), empty, empty...)
	wantExtra(t, casesOf(""), empty)
	wantMissing(t, casesOf(""), nil, "")
	wantMissing(t, casesOf("", "A", ""), []string{"A"}, "", "")
	wantMissing(t, casesOf(""), []string{"A", "m.A"}, "")
}

// R5: texts are bytes: large and small letters, and bytes that are no letters, are told apart.
func TestBytes(t *testing.T) {
	var all []string
	for b := range 256 {
		if b != '.' {
			all = append(all, string([]byte{byte(b)}))
		}
	}
	cases := casesOf(all...)
	wantTwice(t, all)
	for k, name := range all {
		wantNumber(t, cases, name, k)
		wantNumber(t, cases, "m."+name, k)
		wantMissing(t, cases[k:k+1], slices.Delete(slices.Clone(all), k, k+1), name)
		wantExtra(t, cases[k:k+1], all, slices.Delete(slices.Clone(all), k, k+1)...)
	}
	wantNothing(t, cases, all)
}

// P10.1: long names, that differ in their last byte alone, or in their first one.
func TestLongNames(t *testing.T) {
	long := strings.Repeat("A", 1<<20)
	cases := casesOf(long+"A", long+"B", "B"+long)
	wantNothing(t, cases, []string{"B" + long, long + "A", long + "." + long + "B"})
	wantMissing(t, cases, []string{long, long + "B"}, long+"A", "B"+long)
	wantExtra(t, cases, []string{long, "m." + long, long + "A", long + "A."}, long, "m."+long, long+"A.")
	wantTwice(t, []string{long, long + "A", "m." + long, "A" + long, long + "." + long + "B"}, "m."+long, "A"+long)
	wantNumber(t, cases, long+"."+long+"B", 1)
	wantNumber(t, cases, long, -1)
}

// P10.2: each case has one name; and each of what may be wrong alone.
func TestWhatFollows(t *testing.T) {
	wantNothing(t, nil, nil)
	wantNothing(t, casesOf("A"), []string{"A"})
	wantNothing(t, casesOf("A", "B"), []string{"m.B", "A"})
	wantNothing(t, casesOf("A", "A"), []string{"A"})
	for _, w := range []struct {
		names                 string
		missing, extra, twice []string
	}{
		{"A", []string{"B"}, nil, nil},
		{"A B C", nil, []string{"C"}, nil},
		{"A B m.A", nil, nil, []string{"m.A"}},
		{"A C", []string{"B"}, []string{"C"}, nil},
		{"A A", []string{"B"}, nil, []string{"A"}},
		{"C B n.C A", nil, []string{"C", "n.C"}, []string{"n.C"}},
		{"C n.C", []string{"A", "B"}, []string{"C", "n.C"}, []string{"n.C"}},
	} {
		cases, names := casesOf("A", "B"), strings.Fields(w.names)
		wantMissing(t, cases, names, w.missing...)
		wantExtra(t, cases, names, w.extra...)
		wantTwice(t, names, w.twice...)
		wantAsByScan(t, cases, names)
	}
}

// R1, R4: no lists at all, and empty ones.
func TestNoLists(t *testing.T) {
	for _, cases := range [][]api.Case{nil, {}} {
		for _, names := range [][]string{nil, {}} {
			wantNothing(t, cases, names)
			wantMissing(t, casesOf("B", "A"), names, "B", "A")
			wantExtra(t, cases, []string{"m.A", "A"}, "m.A", "A")
		}
	}
}

// R1: so many cases and names that each call must go through them once.
func TestMany(t *testing.T) {
	const many = 200000
	var names, dotted []string
	for k := range many {
		name := "C" + strings.Repeat("x", k%7) + string(rune('a'+k%26)) + string([]byte{byte(k), byte(k >> 8), byte(k >> 16)})
		name = strings.ReplaceAll(name, ".", "dot")
		names, dotted = append(names, name), append(dotted, "m."+name)
	}
	cases := casesOf(names...)
	wantList(t, "Missing", nil, nil, cover.Missing(cases, dotted), nil)
	wantList(t, "Missing", nil, nil, cover.Missing(cases, nil), names)
	wantList(t, "Extra", nil, nil, cover.Extra(cases, dotted), nil)
	wantList(t, "Extra", nil, nil, cover.Extra(nil, dotted), dotted)
	wantList(t, "Twice", nil, nil, cover.Twice(names), nil)
	wantList(t, "Twice", nil, nil, cover.Twice(append(dotted, names...)), names)
	wantNumber(t, cases, dotted[many-1], many-1)
}
