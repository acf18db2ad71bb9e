package cover_test

import (
	"slices"
	"strings"
	"testing"

	"hawser/api"
	"hawser/cover"
)

// casesOf are cases of these names, each with a field, so that a field taken for a name would be told.
func casesOf(names ...string) (l []api.Case) {
	for _, name := range names {
		l = append(l, api.Case{Name: name, Fields: []string{"field.F"}})
	}
	return l
}

func namesOf(cases []api.Case) (l []string) {
	for _, c := range cases {
		l = append(l, c.Name)
	}
	return l
}

// counts is what a name counts as: the last of its pieces between dots.
func counts(name string) string {
	pieces := strings.Split(name, ".")
	return pieces[len(pieces)-1]
}

// numberByScan is the model of Number: it goes from behind, so that the first one stays.
func numberByScan(cases []api.Case, name string) int {
	number := -1
	for k := len(cases) - 1; k >= 0; k-- {
		if cases[k].Name == counts(name) {
			number = k
		}
	}
	return number
}

// missingByScan, extraByScan, twiceByScan are models that hold each text against each other one.
func missingByScan(cases []api.Case, names []string) (l []string) {
	for _, c := range cases {
		if !slices.ContainsFunc(names, func(name string) bool { return counts(name) == c.Name }) {
			l = append(l, c.Name)
		}
	}
	return l
}

func extraByScan(cases []api.Case, names []string) (l []string) {
	for _, name := range names {
		if !slices.Contains(namesOf(cases), counts(name)) {
			l = append(l, name)
		}
	}
	return l
}

func twiceByScan(names []string) (l []string) {
	for k, name := range names {
		if slices.ContainsFunc(names[:k], func(ahead string) bool { return counts(ahead) == counts(name) }) {
			l = append(l, name)
		}
	}
	return l
}

// oneEach: each case has one name, and no name is left.
func oneEach(cases []api.Case, names []string) bool {
	for _, c := range cases {
		mine := slices.DeleteFunc(slices.Clone(names), func(name string) bool { return counts(name) != c.Name })
		if len(mine) != 1 {
			return false
		}
	}
	return len(extraByScan(cases, names)) == 0
}

func wantList(t testing.TB, call string, cases []api.Case, names, got, want []string) {
	t.Helper()
	if !slices.Equal(got, want) {
		t.Errorf("%s(%.100q, %.100q): %.100q, want %.100q", call, namesOf(cases), names, got, want)
	}
}

func wantMissing(t testing.TB, cases []api.Case, names []string, want ...string) {
	t.Helper()
	wantList(t, "Missing", cases, names, cover.Missing(cases, names), want)
	wantList(t, "the model of Missing", cases, names, missingByScan(cases, names), want)
}

func wantExtra(t testing.TB, cases []api.Case, names []string, want ...string) {
	t.Helper()
	wantList(t, "Extra", cases, names, cover.Extra(cases, names), want)
	wantList(t, "the model of Extra", cases, names, extraByScan(cases, names), want)
}

func wantTwice(t testing.TB, names []string, want ...string) {
	t.Helper()
	wantList(t, "Twice", nil, names, cover.Twice(names), want)
	wantList(t, "the model of Twice", nil, names, twiceByScan(names), want)
}

func wantNumber(t testing.TB, cases []api.Case, name string, want int) {
	t.Helper()
	if got := cover.Number(cases, name); got != want {
		t.Errorf("Number(%.100q, %.100q): %d, want %d", namesOf(cases), name, got, want)
	}
	if got := numberByScan(cases, name); got != want {
		t.Errorf("the model of Number(%.100q, %.100q): %d, want %d", namesOf(cases), name, got, want)
	}
}

// wantNothing: nothing is Missing, Extra and Twice.
func wantNothing(t testing.TB, cases []api.Case, names []string) {
	t.Helper()
	wantMissing(t, cases, names)
	wantExtra(t, cases, names)
	wantTwice(t, names)
}

// wantAsByScan: all calls answer what the models do, and P10.2 holds.
func wantAsByScan(t testing.TB, cases []api.Case, names []string) {
	t.Helper()
	wantMissing(t, cases, names, missingByScan(cases, names)...)
	wantExtra(t, cases, names, extraByScan(cases, names)...)
	wantTwice(t, names, twiceByScan(names)...)
	for _, name := range names {
		wantNumber(t, cases, name, numberByScan(cases, name))
	}
	nothing := len(cover.Missing(cases, names))+len(cover.Extra(cases, names))+len(cover.Twice(names)) == 0
	if nothing != oneEach(cases, names) {
		t.Errorf("P10.2: %.100q, %.100q: nothing is told: %v", namesOf(cases), names, nothing)
	}
}
