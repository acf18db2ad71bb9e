package verify_test

import (
	"strconv"
	"strings"
	"testing"

	"hawser/api"
)

// times is an instruction as often as that, with what parts it from the next one.
func times(n int, text string) string { return strings.Repeat(text+"; ", n) }

// ordinaries are functions that are let by; each instruction stands in at least one of them.
func ordinaries() []fn {
	return []fn{
		{result: "num", text: "push; ret"},
		{result: "bytes", text: "lit; ret"},
		{params: "num bytes m.T", result: "bytes", text: "load 1; ret"},
		{params: "num", result: "num", more: 1, text: "load 0; store 1; load 1; ret"},
		{params: "num", result: "bytes", text: "lit; store 0; load 0; ret"},
		{params: "num", result: "num", text: "load 0; zero a; push; ret; a: load 0; ret"},
		{params: "num", result: "num", text: "load 0; zero a; push; jump b; a: load 0; b: ret"},
		{params: "num", result: "num", text: "jump a; a: load 0; ret"},
		{params: "num", result: "num", text: "load 0; zero a; a: load 0; ret"},
		{params: "num", result: "num", text: "load 0; load 0; zero a; jump a; a: ret"},
		// jumps over one another
		{params: "num", result: "num", text: "load 0; zero a; push; zero b; push; jump c; a: push; jump d; b: push; c: do neg; d: ret"},
		{params: "num", result: "num", text: "load 0; zero a; push; zero b; push; push; jump c; b: push; push; jump d; a: push; push; jump e; c: jump d; d: jump e; e: do sub; ret"},
		// locals that are set on one way alone, and on both
		{params: "num", result: "num", more: 1, text: "load 0; zero a; push; store 1; a: load 0; ret"},
		{params: "num", result: "num", more: 1, text: "load 0; zero a; push; store 1; jump b; a: push; store 1; b: load 1; ret"},
		{params: "num", result: "num", more: 1, text: "load 0; zero a; push; store 1; a: push; store 1; load 1; ret"},
		{params: "num", result: "num", more: 1, text: "push; store 1; load 0; zero a; load 1; store 1; a: load 1; ret"},
		{params: "num", result: "num", more: 1, text: "load 0; zero a; push; store 1; jump b; a: lit; store 1; b: push; ret"},
		{params: "num", result: "num", text: "load 0; zero a; lit; store 0; jump b; a: lit; store 0; b: load 0; do len; ret"},
		{params: "num", result: "bytes", more: 1, text: "load 0; zero a; lit; store 1; load 1; ret; a: push; store 1; lit; ret"},
		{result: "[num]", text: "push; push; push; array 3 num; ret"},
		{result: "[bytes]", text: "array 0 bytes; ret"},
		{result: "num", more: 1, text: "global n.long; global n.long; array 2 longish; store 0; load 0; global n.longer; do cat; do len; ret"},
		{result: "[n.U]", text: "global n.e; array 1 U; ret"},
		{result: "m.T", text: "build 0 m.T; ret"},
		{result: "m.T", text: "push; lit; build 1 m.T; ret"},
		{params: "n.U", result: "n.U", text: "build 0 n.U; ret"},
		{params: "n.U", result: "n.U", text: "load 0; switch n.U a b; a: build 0 n.U; ret; b: build 1 n.U; ret"},
		{result: "m.Six", text: "push; lit; build 0 m.T; array 0 num; build 5 m.Six; build 1 m.Six; ret"},
		{params: "[k.V] n.U", result: "k.V", text: "load 0; load 1; build 0 k.V; ret"},
		{params: "m.T", result: "num", text: "load 0; switch m.T a b; a: push; ret; b: do len; do add; ret"},
		{params: "m.T", result: "num", text: "load 0; switch m.T a b; b: store 0; ret; a: push; ret"},
		{params: "m.One", result: "num", text: "load 0; switch m.One a; a: do sub; do mul; do add; ret"},
		{params: "m.Six", result: "num", text: "load 0; switch m.Six d b c d e f; b: switch m.Six d x c d e f; x: store 0; d: push; ret; c: do add; ret; e: do len; ret; f: do len; store 0; store 0; do len; do add; ret"},
		{params: "n.U", result: "n.U", text: "push; load 0; switch n.U a b; a: call n.h; ret; b: store 0; store 0; call n.h; ret"},
		{result: "bytes", text: "push; lit; call m.g; ret"},
		{result: "num", text: "call m.k; ret"},
		{params: "num", result: "num", text: "load 0; zero a; load 0; call m.f; ret; a: push; ret"},
		{result: "bytes", text: "call #0; ret"},
		{result: "[num]", text: "call #4; ret"},
		{result: "n.U", text: "call n.z; call n.h; ret"},
		{result: "m.T", text: "push; lit; push; lit; push; lit; call k.wide; ret"},
		{result: "bytes", text: "global m.c; ret"},
		{result: "num", text: "global m.d; do len; ret"},
		{result: "n.U", text: "global n.e; ret"},
		{result: "(num)num", text: "lit; close 1 #2; ret"},
		{result: "(bytes)m.T", text: "push; build 0 m.T; close 2 #5; ret"},
		{result: "()bytes", text: "close 0 #0; ret"},
		{result: "()num", text: "push; close 1 #7; ret"},
		{result: "(num,bytes)bytes", text: "close 0 m.g; ret"},
		{result: "(num)n.U", text: "close 0 n.h; ret"},
		{result: wide, text: "close 0 k.wide; ret"},
		{result: "num", text: "close 0 m.k; apply 0; ret"},
		{result: "bytes", text: "close 0 m.g; push; lit; apply 2; ret"},
		{result: "num", text: "lit; close 1 #2; push; apply 1; ret"},
		{params: wide, result: "m.T", text: "load 0; push; lit; push; lit; push; lit; apply 6; ret"},
		{params: "()(num)()bytes", result: "bytes", text: "load 0; apply 0; push; apply 1; apply 0; ret"},
		{params: "((num)num)num (num)num", result: "num", text: "load 0; load 1; apply 1; ret"},
	}
}

func TestOrdinary(t *testing.T) {
	for _, f := range ordinaries() {
		wantTested(t, f, api.OK)
	}
	for n := range plain().Funs {
		wantFun(t, "the scene's own", plain(), n, api.OK, 0)
	}
}

// refused is a function that is refused at its mark.
type refused struct {
	fn
	why api.Errno
}

func wantAllRefused(t *testing.T, list []refused) {
	t.Helper()
	for _, c := range list {
		wantTested(t, c.fn, c.why)
	}
}

// P15.2: MaxStack values may be left, and no more, whatever is pushed.
func TestStackEdge(t *testing.T) {
	for one, full := range map[string]api.Errno{
		"push": api.ErrStack, "load 0": api.ErrStack, "call m.k": api.ErrStack, "call n.z": api.ErrStack,
		"lit": api.ErrType, "array 0 num": api.ErrType, "build 0 m.T": api.ErrType, "call #0": api.ErrType, "global m.c": api.ErrType, "global n.e": api.ErrType, "close 0 m.g": api.ErrType, "close 0 #0": api.ErrType, "close 0 n.h": api.ErrType,
	} {
		wantTested(t, fn{params: "num", result: "num", text: times(48, one) + "!ret"}, full)
		wantTested(t, fn{params: "num", result: "num", text: times(48, one) + "!" + one + "; ret"}, api.ErrStack)
		wantTested(t, fn{params: "num", result: "num", text: times(47, "push") + one + "; !" + one + "; ret"}, api.ErrStack)
	}
	for _, f := range []fn{
		{result: "num", text: times(48, "push") + times(47, "do add") + "ret"},
		{result: "num", more: 1, text: times(48, "push") + times(47, "store 0") + "ret"},
		{result: "num", text: times(48, "push") + "array 48 num; do len; ret"},
		{result: "num", text: times(48, "lit") + "array 48 bytes; do len; ret"},
		{result: "num", more: 1, text: times(47, "push") + "zero a; " + times(45, "store 0") + "ret; a: " + times(45, "store 0") + "ret"},
		{result: "num", more: 1, text: times(48, "push") + "store 0; load 0; do neg; " + times(47, "store 0") + "ret"},
		{params: "m.One", result: "num", more: 1, text: times(44, "push") + "load 0; switch m.One a; a: " + times(47, "store 1") + "ret"},
		{params: "m.T", result: "num", more: 1, text: times(46, "push") + "load 0; switch m.T a b; a: " + times(45, "store 1") + "ret; b: store 1; store 1; " + times(45, "store 1") + "ret"},
		{result: "num", more: 1, text: times(46, "push") + "push; lit; build 1 m.T; store 0; " + times(45, "store 0") + "ret"},
		{result: "num", more: 1, text: times(47, "push") + "close 0 m.k; apply 0; " + times(47, "store 0") + "ret"},
		{result: "num", more: 1, text: times(47, "push") + "lit; close 1 #2; store 0; " + times(46, "store 0") + "ret"},
	} {
		wantTested(t, f, api.OK)
	}
	wantAllRefused(t, []refused{
		{fn{params: "m.One", result: "num", text: times(45, "push") + "load 0; !switch m.One a; a: ret"}, api.ErrStack},
		{fn{params: "m.T", result: "num", text: times(47, "push") + "load 0; !switch m.T a b; a: ret; b: ret"}, api.ErrStack},
		{fn{params: "m.Six", result: "num", text: times(45, "push") + "load 0; !switch m.Six a a a a a b; a: ret; b: ret"}, api.ErrStack},
		{fn{params: "m.Six", result: "num", text: times(47, "push") + "load 0; !switch m.Six a a b a a b; a: ret; b: ret"}, api.ErrStack},
	})
}

// P15.2: locals by their numbers.
func TestLocalsEdge(t *testing.T) {
	for _, n := range []int{1, 2, 5, 24} {
		last, none := strconv.Itoa(n-1), strconv.Itoa(n)
		wantTested(t, fn{result: "num", more: n, text: "push; store " + last + "; load " + last + "; ret"}, api.OK)
		wantTested(t, fn{result: "num", more: n, text: "push; !store " + none + "; push; ret"}, api.ErrRef)
		wantTested(t, fn{result: "num", more: n, text: "!load " + none + "; ret"}, api.ErrRef)
		wantTested(t, fn{result: "num", more: n, text: "!load " + last + "; ret"}, api.ErrRef)
		wantTested(t, fn{result: "num", more: n, text: "!load 255; ret"}, api.ErrRef)
		wantTested(t, fn{result: "num", more: n, text: "push; !store 255; ret"}, api.ErrRef)
	}
	wantAllRefused(t, []refused{
		{fn{result: "num", text: "!load 0; ret"}, api.ErrRef},
		{fn{result: "num", text: "push; !store 0; push; ret"}, api.ErrRef},
		{fn{params: "num", result: "num", text: "!load 1; ret"}, api.ErrRef},
		{fn{params: "num num", result: "num", more: 1, text: "!load 2; ret"}, api.ErrRef},
	})
	wantTested(t, fn{params: "num bytes num bytes num bytes", result: "bytes", text: "load 5; ret"}, api.OK)
}

// P15.2: what a function takes along are its first locals.
func TestTakenAlong(t *testing.T) {
	f := fn{taken: "bytes m.T", params: "num", result: "bytes", text: "load 0; ret"}
	wantFun(t, "what is taken along", assembled([]fn{f}, nil), 0, api.OK, 0)
	f.text = "load 1; ret"
	wantFun(t, "what is taken along", assembled([]fn{f}, nil), 0, api.ErrType, 2)
	f.text, f.result = "load 2; ret", "num"
	wantFun(t, "behind what is taken along", assembled([]fn{f}, nil), 0, api.OK, 0)
	f.text = "load 3; ret"
	wantFun(t, "behind all", assembled([]fn{f}, nil), 0, api.ErrRef, 0)
}

// P15.2: what stands last.
func TestLastEdge(t *testing.T) {
	wantTested(t, fn{result: "num", text: ""}, api.ErrEnd)
	wantAllRefused(t, []refused{
		{fn{result: "num", text: "!push"}, api.ErrEnd},
		{fn{result: "num", text: "push; !lit"}, api.ErrEnd},
		{fn{params: "num", result: "num", text: "!load 0"}, api.ErrEnd},
		{fn{params: "num", result: "num", text: "push; !store 0"}, api.ErrEnd},
		{fn{params: "num", result: "num", text: "load 0; !do neg"}, api.ErrEnd},
		{fn{params: "num", result: "num", text: "load 0; !array 1 num"}, api.ErrEnd},
		{fn{params: "num", result: "num", text: "!build 0 m.T"}, api.ErrEnd},
		{fn{params: "num", result: "num", text: "!call m.k"}, api.ErrEnd},
		{fn{params: "num", result: "num", text: "!global m.c"}, api.ErrEnd},
		{fn{params: "num", result: "num", text: "!close 0 m.k"}, api.ErrEnd},
		{fn{params: "()num", result: "num", text: "load 0; !apply 0"}, api.ErrEnd},
		{fn{params: "num", result: "num", text: "load 0; zero a; push; ret; a: !push"}, api.ErrEnd},
		{fn{params: "num", result: "num", text: "!jump 0"}, api.ErrJump},
		{fn{params: "num", result: "num", text: "load 0; !zero 0"}, api.ErrJump},
		{fn{params: "m.T", result: "num", text: "load 0; !switch m.T 0 0"}, api.ErrJump},
	})
}

// P15.2: where a jump may go to: an instruction, the last one too, but not into one, nor behind the end.
func TestJumpEdge(t *testing.T) {
	for _, f := range []fn{
		{params: "num", result: "num", text: "load 0; zero 0; push; do neg; ret"},
		{params: "num", result: "num", text: "push; load 0; zero 2; do neg; ret"},
		{params: "num", result: "num", text: "push; jump 0; do neg; ret"},
		{params: "num", result: "num", text: "push; load 0; zero 3; jump 2; do neg; ret"},
		{params: "m.T", result: "num", text: "load 0; switch m.T 0 4; push; ret; store 0; ret"},
		{params: "m.T", result: "num", text: "push; load 0; switch m.T 4 0; store 0; store 0; ret"},
		{params: "num", result: "num", text: "load 0; jump a; a: zero b; " + times(678, "jump 0") + "b: push; ret"},
	} {
		wantTested(t, f, api.OK)
	}
	for _, to := range []string{"1", "2", "4", "6", "7", "255", "256", "258", "2048", "65535"} {
		wantTested(t, fn{params: "num", result: "num", text: "load 0; !zero " + to + "; push; do neg; ret"}, api.ErrJump)
		wantTested(t, fn{params: "num", result: "num", text: "!jump " + to + "; push; do neg; ret"}, api.ErrJump)
		wantTested(t, fn{params: "m.T", result: "num", text: "load 0; !switch m.T 0 " + to + "; push; do neg; ret"}, api.ErrJump)
		wantTested(t, fn{params: "m.T", result: "num", text: "load 0; !switch m.T " + to + " 0; push; do neg; ret"}, api.ErrJump)
		wantTested(t, fn{params: "m.Six", result: "num", text: "load 0; !switch m.Six 0 0 0 " + to + " 0 0; push; do neg; ret"}, api.ErrJump)
	}
}

// P15.2: ways that meet.
func TestJoin(t *testing.T) {
	wantAllRefused(t, []refused{
		{fn{params: "num", result: "num", text: "load 0; zero a; push; !a: push; ret"}, api.ErrJump},
		{fn{params: "num", result: "num", text: "load 0; zero a; push; jump b; a: lit; !b: ret"}, api.ErrJump},
		{fn{params: "num", result: "num", text: "load 0; zero a; push; lit; jump b; a: lit; lit; !b: do len; ret"}, api.ErrJump},
		{fn{params: "num", result: "num", text: "load 0; zero a; lit; push; jump b; a: lit; lit; !b: do len; ret"}, api.ErrJump},
		{fn{params: "num", result: "num", text: "load 0; zero a; push; push; jump b; a: push; !b: ret"}, api.ErrJump},
		{fn{params: "num", result: "num", text: "load 0; zero a; push; jump b; a: push; push; !b: ret"}, api.ErrJump},
		// with nothing from ahead
		{fn{params: "num", result: "num", text: "load 0; zero a; push; jump b; a: lit; jump b; !b: ret"}, api.ErrJump},
		{fn{params: "num", result: "num", text: "load 0; zero a; push; jump b; a: push; jump b; b: ret"}, api.OK},
		// the third of three, the second, the first
		{fn{params: "num", result: "num", text: "load 0; zero a; load 0; zero b; push; jump c; a: push; jump c; b: lit; !c: ret"}, api.ErrJump},
		{fn{params: "num", result: "num", text: "load 0; zero a; load 0; zero b; push; jump c; a: lit; jump c; b: push; !c: ret"}, api.ErrJump},
		{fn{params: "num", result: "num", text: "load 0; zero a; load 0; zero b; lit; jump c; a: push; jump c; b: push; !c: ret"}, api.ErrJump},
		{fn{params: "num", result: "num", text: "load 0; zero a; load 0; zero b; push; jump c; a: push; jump c; b: push; c: ret"}, api.OK},
		// cases that meet
		{fn{params: "m.T", result: "num", text: "load 0; switch m.T a a; !a: push; ret"}, api.ErrJump},
		{fn{params: "m.Six", result: "num", text: "load 0; switch m.Six a b c a e f; b: jump a; c: jump a; e: jump a; f: jump a; !a: push; ret"}, api.ErrJump},
		{fn{params: "m.Six", result: "num", text: "load 0; switch m.Six a b c a e f; b: store 0; jump a; c: do add; store 0; jump a; e: store 0; jump a; f: store 0; store 0; store 0; store 0; jump a; a: push; ret"}, api.OK},
		{fn{params: "m.Six", result: "num", text: "load 0; switch m.Six a b c a e f; b: store 0; jump a; c: do add; store 0; jump a; e: store 0; jump a; f: store 0; store 0; store 0; store 0; jump a; a: !load 0; ret"}, api.ErrRef},
		// nothing at all
		{fn{params: "num", result: "num", text: "push; ret; !push; ret"}, api.ErrJump},
		{fn{params: "num", result: "num", text: "push; ret; !ret"}, api.ErrJump},
		{fn{params: "num", result: "num", text: "jump a; !push; a: push; ret"}, api.ErrJump},
		{fn{params: "m.T", result: "num", text: "load 0; switch m.T a b; !push; a: push; ret; b: store 0; ret"}, api.ErrJump},
		{fn{params: "num", result: "num", text: "load 0; zero a; push; ret; a: push; ret; !push; ret"}, api.ErrJump},
		// locals
		{fn{params: "num", result: "num", more: 1, text: "load 0; zero a; push; store 1; a: !load 1; ret"}, api.ErrRef},
		{fn{params: "num", result: "num", more: 1, text: "load 0; zero a; jump b; a: push; store 1; b: !load 1; ret"}, api.ErrRef},
		{fn{params: "num", result: "num", more: 1, text: "load 0; zero a; push; store 1; jump b; a: lit; store 1; b: !load 1; ret"}, api.ErrRef},
		{fn{params: "num", result: "num", text: "load 0; zero a; lit; store 0; a: !load 0; ret"}, api.ErrRef},
		{fn{params: "num num", result: "num", text: "load 0; zero a; lit; store 0; a: load 1; ret"}, api.OK},
		{fn{params: "num num", result: "num", text: "load 0; zero a; lit; store 1; a: load 0; ret"}, api.OK},
		{fn{params: "num", result: "num", more: 1, text: "load 0; zero a; load 0; zero b; push; store 1; jump c; a: push; store 1; jump c; b: push; store 1; c: load 1; ret"}, api.OK},
		{fn{params: "num", result: "num", more: 1, text: "load 0; zero a; load 0; zero b; push; store 1; jump c; a: push; store 1; jump c; b: lit; store 1; c: !load 1; ret"}, api.ErrRef},
		{fn{params: "num", result: "num", more: 1, text: "load 0; zero a; load 0; zero b; push; store 1; jump c; a: lit; store 1; jump c; b: push; store 1; c: !load 1; ret"}, api.ErrRef},
		{fn{params: "num", result: "num", more: 1, text: "load 0; zero a; load 0; zero b; lit; store 1; jump c; a: push; store 1; jump c; b: push; store 1; c: !load 1; ret"}, api.ErrRef},
		{fn{params: "num", result: "num", more: 1, text: "load 0; zero a; load 0; zero b; push; store 1; jump c; a: jump c; b: push; store 1; c: !load 1; ret"}, api.ErrRef},
		// one that is unset stays so, also where ways meet again
		{fn{params: "num", result: "num", more: 1, text: "load 0; zero a; push; store 1; a: load 0; zero b; push; store 1; b: !load 1; ret"}, api.ErrRef},
		{fn{params: "num", result: "num", more: 1, text: "load 0; zero a; push; store 1; a: push; zero b; b: !load 1; ret"}, api.ErrRef},
		// what one way does, the other one does not see
		{fn{params: "num", result: "bytes", text: "load 0; zero a; lit; store 0; load 0; ret; a: load 0; !ret"}, api.ErrType},
		{fn{params: "m.T", result: "num", text: "load 0; switch m.T a b; a: push; store 0; load 0; ret; b: store 0; store 0; load 0; ret"}, api.OK},
		{fn{params: "m.T", result: "num", text: "load 0; switch m.T a b; a: push; store 0; load 0; ret; b: store 0; load 0; !ret"}, api.ErrType},
	})
}
