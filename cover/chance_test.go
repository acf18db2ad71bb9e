package cover_test

import (
	"math/rand"
	"slices"
	"strings"
	"testing"

	"hawser/cover"
)

// lists calls f with each list of these texts that is no longer than most.
func lists(texts []string, most int, f func([]string)) {
	var longer func([]string)
	longer = func(l []string) {
		f(l)
		if len(l) < most {
			for _, text := range texts {
				longer(append(slices.Clip(l), text))
			}
		}
	}
	longer(nil)
}

// P10.1 and P10.2: all short lists of few cases and names.
func TestAllShort(t *testing.T) {
	nothing := 0
	lists([]string{"A", "B", ""}, 3, func(cases []string) {
		lists([]string{"A", "B", "m.A", "B.A", "A.", "C"}, 4, func(names []string) {
			wantAsByScan(t, casesOf(cases...), names)
			if len(cover.Missing(casesOf(cases...), names))+len(cover.Extra(casesOf(cases...), names))+len(cover.Twice(names)) == 0 {
				nothing++
			}
		})
	})
	if nothing < 100 {
		t.Errorf("too few pairs of lists of which nothing is told: %d", nothing)
	}
}

// bytesOf is a text of few bytes, dots among them.
func bytesOf(r *rand.Rand) string {
	b := make([]byte, r.Intn(5))
	for k := range b {
		b[k] = "AABbm..\x00\xff"[r.Intn(9)]
	}
	return string(b)
}

// P10.1 and P10.2: texts of whatever bytes, in lists of whatever length.
func TestByChance(t *testing.T) {
	r := rand.New(rand.NewSource(1))
	for range 10000 {
		var cases, names []string
		for range r.Intn(12) {
			cases = append(cases, strings.ReplaceAll(bytesOf(r), ".", ""))
		}
		for range r.Intn(12) {
			name := bytesOf(r)
			if len(cases) > 0 && r.Intn(2) == 0 {
				name += "." + cases[r.Intn(len(cases))]
			}
			names = append(names, name)
		}
		wantAsByScan(t, casesOf(cases...), names)
	}
}

func FuzzCover(f *testing.F) {
	f.Add("A B", "m.B")
	f.Add("", "A m.A")
	f.Add("A B B", "B.A A. . ..A")
	f.Fuzz(func(t *testing.T, cases, names string) {
		wantAsByScan(t, casesOf(strings.Split(cases, " ")...), strings.Split(names, " "))
	})
}
