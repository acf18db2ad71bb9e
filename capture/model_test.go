package capture_test

import (
	"fmt"
	"slices"
	"strings"
	"testing"

	"hawser/api"
	"hawser/capture"
	"hawser/parse"
	"hawser/tree"
)

func read(t testing.TB, source string) api.Expr {
	t.Helper()
	x, why, at := tree.Parse(source)
	if why != api.OK {
		t.Fatalf("%.200s: %v at %d", source, why, at)
	}
	e, why, at := parse.Expr(x, "m")
	if why != api.OK {
		t.Fatalf("%.200s: %v at %d", source, why, at)
	}
	return e
}

// without is l but for these names.
func without(l, names []string) []string {
	return slices.DeleteFunc(slices.Clone(l), func(name string) bool { return slices.Contains(names, name) })
}

// freeByParts is the model of Free: what is free in the parts, but for what is bound in them, kind by kind.
func freeByParts(e api.Expr) (l []string) {
	switch e.Kind {
	case api.Number, api.Text:
	case api.Var:
		if strings.Count(e.Name, ".") == 0 {
			l = []string{e.Name}
		}
	case api.Let:
		l = slices.Concat(freeByParts(e.Kids[0]), without(freeByParts(e.Kids[1]), []string{e.Name}))
	case api.Lambda:
		l = freeByParts(e.Kids[0])
		for _, param := range e.Params {
			l = without(l, []string{param.Name})
		}
	case api.Match:
		l = freeByParts(e.Kids[0])
		for _, arm := range e.Arms {
			l = append(l, without(freeByParts(arm.Body), arm.Vars)...)
		}
	default:
		for _, kid := range e.Kids {
			l = append(l, freeByParts(kid)...)
		}
	}
	var once []string
	for _, name := range l {
		if !slices.Contains(once, name) {
			once = append(once, name)
		}
	}
	return once
}

// place is an expression, how deep it stands, which names are bound on the way to it, and whether a Lambda is on it.
type place struct {
	e        api.Expr
	deep     int
	bound    []string
	inLambda bool
}

// within is where a part of what stands at p does.
func (p place) within(part api.Expr, names ...string) place {
	return place{part, p.deep + 1, slices.Concat(p.bound, names), p.inLambda || p.e.Kind == api.Lambda}
}

// placesOf are the places of all expressions of e, it too, from the left.
func placesOf(e api.Expr) []place { return placesFrom(place{e: e, deep: 1}) }

func placesFrom(p place) []place {
	l := []place{p}
	switch e := p.e; e.Kind {
	case api.Let:
		l = append(l, placesFrom(p.within(e.Kids[0]))...)
		l = append(l, placesFrom(p.within(e.Kids[1], e.Name))...)
	case api.Lambda:
		var names []string
		for _, param := range e.Params {
			names = append(names, param.Name)
		}
		l = append(l, placesFrom(p.within(e.Kids[0], names...))...)
	default:
		for _, kid := range e.Kids {
			l = append(l, placesFrom(p.within(kid))...)
		}
		for _, arm := range e.Arms {
			l = append(l, placesFrom(p.within(arm.Body, arm.Vars...))...)
		}
	}
	return l
}

func told(free []string, locals, depth, count int) string {
	return fmt.Sprintf("%q %d %d %d", free, locals, depth, count)
}

// answers is what the calls tell of e.
func answers(e api.Expr) string {
	return told(capture.Free(e), capture.Locals(e), capture.Depth(e), capture.Count(e))
}

// byPlaces is what the models tell of e: each is a question to all places.
func byPlaces(e api.Expr) string {
	locals, depth, places := 0, 0, placesOf(e)
	for _, p := range places {
		depth = max(depth, p.deep)
		if !p.inLambda {
			locals = max(locals, len(p.bound))
		}
	}
	return told(freeByParts(e), locals, depth, len(places))
}

// wantFollows: what is free in a part is free in the whole, or bound on the way; and what is free in the whole is so somewhere.
func wantFollows(t testing.TB, e api.Expr) {
	t.Helper()
	free, met := capture.Free(e), map[string]int{}
	for _, p := range placesOf(e) {
		for _, name := range capture.Free(p.e) {
			if !slices.Contains(free, name) && !slices.Contains(p.bound, name) {
				t.Errorf("P11.2: %s is free in a part at %d, and neither bound on the way nor free in %.200s", name, p.e.At, fmt.Sprint(e))
			}
		}
		if p.e.Kind == api.Var && !slices.Contains(p.bound, p.e.Name) {
			met[p.e.Name]++
		}
	}
	for _, name := range free {
		if met[name] == 0 {
			t.Errorf("%s is nowhere free in %.200s", name, fmt.Sprint(e))
		}
	}
}

// wantAsByModel: the calls answer what the models do, and P11.2 holds.
func wantAsByModel(t testing.TB, e api.Expr) {
	t.Helper()
	if got, want := answers(e), byPlaces(e); got != want {
		t.Errorf("%.300s: %s, want %s", fmt.Sprint(e), got, want)
	}
	wantFollows(t, e)
}

// want: what the calls tell of a source, the free names parted by blanks.
func want(t testing.TB, source, free string, locals, depth, count int) {
	t.Helper()
	e, names := read(t, source), strings.Fields(free)
	if got := capture.Free(e); !slices.Equal(got, names) {
		t.Errorf("Free(%.200s): %q, want %q", source, got, names)
	}
	if got := capture.Locals(e); got != locals {
		t.Errorf("Locals(%.200s): %d, want %d", source, got, locals)
	}
	if got := capture.Depth(e); got != depth {
		t.Errorf("Depth(%.200s): %d, want %d", source, got, depth)
	}
	if got := capture.Count(e); got != count {
		t.Errorf("Count(%.200s): %d, want %d", source, got, count)
	}
	wantAsByModel(t, e)
}

func wantFree(t testing.TB, source, free string) {
	t.Helper()
	e, names := read(t, source), strings.Fields(free)
	if got := capture.Free(e); !slices.Equal(got, names) {
		t.Errorf("Free(%.200s): %q, want %q", source, got, names)
	}
	wantAsByModel(t, e)
}

func wantLocals(t testing.TB, source string, locals int) {
	t.Helper()
	e := read(t, source)
	if got := capture.Locals(e); got != locals {
		t.Errorf("Locals(%.200s): %d, want %d", source, got, locals)
	}
	wantAsByModel(t, e)
}
