package verify_test

import (
	"testing"

	"hawser/api"
	"hawser/object"
	"hawser/verify"
)

func wantObject(t *testing.T, what string, o object.Object, l []api.Iface, why api.Errno, n, at int) {
	t.Helper()
	if gotWhy, gotN, gotAt := verify.Object(o, l); gotWhy != why || gotN != n || gotAt != at {
		t.Errorf("%.300s: Object: %v, %d, %d, want %v, %d, %d", what, gotWhy, gotN, gotAt, why, n, at)
	}
}

func wantFun(t *testing.T, what string, o object.Object, n int, why api.Errno, at int) {
	t.Helper()
	if gotWhy, gotAt := verify.Fun(o, n); gotWhy != why || gotAt != at {
		t.Errorf("%.300s: Fun %d: %v at %d, want %v at %d: %.500s", what, n, gotWhy, gotAt, why, at, toldCode(o.Funs[n].Code))
	}
}

// wantTested: the tested function of a scene is let by, or refused at its mark.
func wantTested(t *testing.T, f fn, why api.Errno) {
	t.Helper()
	o, at, n := scene(f), put(f.text).marked, 1
	if got, k := object.Right(o); got != api.OK {
		t.Errorf("%.300s: the object is not right: %v, %d", f.text, got, k)
	}
	if why == api.OK {
		at, n = 0, 0
	}
	wantFun(t, f.text, o, 1, why, at)
	wantObject(t, f.text, o, ifaces(), why, n, at)
}

// The chapter's runs.
func TestRuns(t *testing.T) {
	one := func(result string) object.Object {
		return object.Object{Module: "m", Funs: []object.Fun{{Result: result, Code: []byte{1, 2, 0, 15}}}}
	}
	wantObject(t, "Push 1, Ret of ()num", one("num"), nil, api.OK, 0, 0)
	wantFun(t, "Push 1, Ret of ()num", one("num"), 0, api.OK, 0)
	wantObject(t, "Push 1, Ret of ()bytes", one("bytes"), nil, api.ErrType, 0, 3)
	wantFun(t, "Push 1, Ret of ()bytes", one("bytes"), 0, api.ErrType, 3)
	wantTested(t, fn{result: "num", more: 1, text: "!load 0; ret"}, api.ErrRef)
}

// The chapter's examples.
func TestExamples(t *testing.T) {
	none := object.Object{Module: "m", Funs: []object.Fun{{Result: "num"}}}
	wantFun(t, "no code", none, 0, api.ErrEnd, 0)
	wantObject(t, "no code", none, nil, api.ErrEnd, 0, 0)
	wantTested(t, fn{result: "num", text: "!jump 1; push; ret"}, api.ErrJump)
	for k := range texts() {
		o := plain()
		o.Texts[k] = "numb"
		wantObject(t, "a text that is no type", o, ifaces(), api.ErrType, k, 0)
		o.Symbols[0].Module = "unknown"
		wantObject(t, "a text that is no type, ahead of a symbol", o, ifaces(), api.ErrType, k, 0)
	}
}
