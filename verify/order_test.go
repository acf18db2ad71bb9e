package verify_test

import (
	"testing"

	"hawser/api"
	"hawser/object"
)

// P15.2: of one instruction: where it goes, its numbers and its symbol, what is popped, one by one, the last first, what is pushed.
func TestOrderOfOne(t *testing.T) {
	wantAllRefused(t, []refused{
		// where it goes ahead of all else
		{of("!zero 99; push; ret"), api.ErrJump},
		{of("lit; !zero 99; push; ret"), api.ErrJump},
		{of("!switch m.c 99; push; ret"), api.ErrJump},
		{of("!switch m.T 99; push; ret"), api.ErrJump},
		{of("!switch m.T 0 99; push; ret"), api.ErrJump},
		{of("lit; !switch m.T 99 0; push; ret"), api.ErrJump},
		{of(times(47, "push") + "load 1; !switch m.T 0 99; push; ret"), api.ErrJump},
		// numbers and symbols ahead of what is popped
		{of("!store 9; push; ret"), api.ErrRef},
		{of("!do 13; ret"), api.ErrForm},
		{of("lit; !do 255; ret"), api.ErrForm},
		{of("!array 1 8; ret"), api.ErrRef},
		{of("lit; !array 1 8; ret"), api.ErrRef},
		{of("!build 1 m.c; ret"), api.ErrRef},
		{of("!build 2 m.T; ret"), api.ErrRef},
		{of("lit; push; !build 1 m.g; ret"), api.ErrRef},
		{of("!switch m.g a; a: ret"), api.ErrRef},
		{of("!switch m.T a; a: ret"), api.ErrCount},
		{of("push; !switch m.T a; a: ret"), api.ErrCount},
		{of("push; !switch m.g a; a: ret"), api.ErrRef},
		{of("!call m.T; ret"), api.ErrRef},
		{of("!call #2; ret"), api.ErrRef},
		{of("lit; lit; !call #2; ret"), api.ErrRef},
		{of("!close 1 m.T; ret"), api.ErrRef},
		{of("!close 1 m.g; ret"), api.ErrCount},
		{of("!close 2 #2; ret"), api.ErrCount},
		{of("push; !close 2 #2; ret"), api.ErrCount},
		// the symbol ahead of its count
		{of("load 1; !switch m.c a; a: ret"), api.ErrRef},
		{of("!close 9 m.c; ret"), api.ErrRef},
		// what is popped one by one, the last first
		{of("lit; push; !array 3 num; ret"), api.ErrType},
		{of("push; push; !array 3 num; ret"), api.ErrStack},
		{of("push; !build 1 m.T; ret"), api.ErrType},
		{of("lit; !build 1 m.T; ret"), api.ErrStack},
		{of("push; !call m.g; ret"), api.ErrType},
		{of("lit; !call m.g; ret"), api.ErrStack},
		{of("push; !close 2 #5; ret"), api.ErrType},
		{of("load 1; !close 2 #5; ret"), api.ErrStack},
		// of Do and Apply all are there ahead of their types
		{of("lit; !do add; ret"), api.ErrStack},
		{of("push; !do cat; ret"), api.ErrStack},
		{of("lit; lit; !do cut; ret"), api.ErrStack},
		{of("push; push; !do cut; ret"), api.ErrStack},
		{of("lit; !apply 1; ret"), api.ErrStack},
		{of("push; lit; !apply 2; ret"), api.ErrStack},
		{of("lit; lit; !apply 255; ret"), api.ErrStack},
		{of("close 0 n.h; lit; !apply 2; ret"), api.ErrStack},
		// numbers ahead of what is pushed
		{of(times(48, "push") + "!load 3; ret"), api.ErrRef},
		{of(times(48, "push") + "!load 9; ret"), api.ErrRef},
		{of(times(48, "push") + "!array 0 8; ret"), api.ErrRef},
		{of(times(48, "push") + "!build 2 m.T; ret"), api.ErrRef},
		{of(times(48, "push") + "!build 0 m.c; ret"), api.ErrRef},
		{of(times(48, "push") + "!call m.T; ret"), api.ErrRef},
		{of(times(48, "push") + "!call #7; ret"), api.ErrRef},
		{of(times(48, "push") + "!global m.T; ret"), api.ErrRef},
		{of(times(48, "push") + "!close 0 m.T; ret"), api.ErrRef},
		{of(times(48, "push") + "!close 0 #2; ret"), api.ErrCount},
		{of(times(47, "push") + "load 1; !switch m.T a; a: ret"), api.ErrCount},
		{of(times(47, "push") + "load 1; !switch m.c a; a: ret"), api.ErrRef},
		// what is popped ahead of what is pushed
		{of(times(48, "push") + "!switch m.One a; a: ret"), api.ErrType},
		{of("!array 1 longest; ret"), api.ErrStack},
		{of("global n.longer; !array 2 longest; ret"), api.ErrStack},
		{of("push; global n.longer; !array 2 longest; ret"), api.ErrType},
		// the result ahead of what is left
		{of("push; lit; !ret"), api.ErrType},
		{of("lit; push; !ret"), api.ErrStack},
	})
}

// P15.2: of several instructions the first that is refused; where ways meet it is told there, not ahead of it.
func TestOrderOfPlaces(t *testing.T) {
	wantAllRefused(t, []refused{
		{of("lit; !do add; do 13; jump 99"), api.ErrStack},
		{of("!load 9; lit; do add; do 13; jump 99"), api.ErrRef},
		{of("lit; !do 13; lit; do add; jump 99"), api.ErrForm},
		{of("!jump 99; do 13; load 9"), api.ErrJump},
		{of("load 0; zero a; push; !do 13; a: push; ret"), api.ErrForm},
		{of("load 0; zero a; push; jump b; a: lit; !load 9; b: ret"), api.ErrRef},
		{of("load 0; zero a; push; push; !ret; a: ret"), api.ErrStack},
		{of("load 1; switch m.T a b; a: lit; !ret; b: ret"), api.ErrType},
		{of("load 1; switch m.T b a; a: lit; !do add; b: ret"), api.ErrType},
		{of("push; ret; !push; jump 99"), api.ErrJump},
		{of("load 0; zero a; push; ret; a: !do add; push"), api.ErrStack},
		{of("load 0; zero a; !load 3; ret; a: push"), api.ErrRef},
	})
}

// P15.2: what is asked of the whole code, ahead of the instructions and behind them.
func TestOrderOfParts(t *testing.T) {
	wantAllRefused(t, []refused{
		// what Decode refuses ahead of references, and of instructions
		{of("call -; jump 99; !raw 00"), api.ErrForm},
		{of("load 9; do add; !raw 05"), api.ErrEnd},
		// references ahead of instructions
		{of("load 9; do add; ?call -; ret"), api.ErrRef},
		{of("jump 99; ?global -"), api.ErrRef},
		{of("ret; ?close 9 -; ret"), api.ErrRef},
		{of("do 13; push; ret; ?switch - 99; call -"), api.ErrRef},
		// what the last instruction is behind all else
		{of("!load 9"), api.ErrRef},
		{of("!do add"), api.ErrStack},
		{of("!array 0 8"), api.ErrRef},
		{of("push; ret; !push"), api.ErrJump},
		{of("load 0; zero a; push; !a: push"), api.ErrJump},
		{of("push; !do add; push"), api.ErrStack},
	})
	for _, text := range []string{"load 9; ret", "jump 99; push", "push", "push; ret; push; ret"} {
		o := scene(of(text))
		wantFun(t, "a relocation that is no reference's, ahead of "+text, loosened(o, object.Reloc{Fun: 1, At: 1, Sym: 3}), 1, api.ErrRef, 1)
	}
	o := scene(of("push; call -; ret"))
	wantFun(t, "a reference without a relocation, ahead of a relocation without a reference", loosened(o, object.Reloc{Fun: 1, At: 0, Sym: 3}), 1, api.ErrRef, 4)
	wantFun(t, "the same, behind it", loosened(o, object.Reloc{Fun: 1, At: 5, Sym: 3}), 1, api.ErrRef, 4)
	o = scene(of("push; call -; call -; ret"))
	wantFun(t, "of two references the first", o, 1, api.ErrRef, 4)
	wantFun(t, "then the second", loosened(o, object.Reloc{Fun: 1, At: 4, Sym: 3}), 1, api.ErrRef, 7)
	o = scene(of("push; ret"))
	o.Funs[1].Code = append(o.Funs[1].Code, 0)
	wantFun(t, "no instruction, ahead of a relocation", loosened(o, object.Reloc{Fun: 1, At: 0, Sym: 3}), 1, api.ErrForm, 4)
}
