package compile_test

import (
	"strings"
	"testing"

	"hawser/compile"
)

func wantName(t testing.TB, source, want string) {
	t.Helper()
	for range 2 {
		if got := compile.Name(source); got != want {
			t.Errorf("%.300s: the name is %q, want %q", source, got, want)
		}
	}
}

// P17.2: names of sources, whether what follows the name is right or not.
func TestName(t *testing.T) {
	for source, want := range map[string]string{
		"(module m)": "m", "(module m (fun f () num 1))": "m", " \t\r\n(\nmodule\r_9 )\n": "_9", "; a (remark\n(module ;another\n q)": "q", "(module(module))": "", "(module m(x))": "m", "(module m\"x\")": "m", "(module abcdefghijklmnopqrstuvwx)": "abcdefghijklmnopqrstuvwx", "(module aB_9)": "aB_9", "(module _)": "_",
		"(module m x)": "m", "(module m (let))": "m", "(module m (fun F () num x))": "m", "(module m m)": "m", "(module m ())": "m", "(module m M 9 \"\" (((x))))": "m", "(module m (export x))": "m", "(module m (const c num 9i9) x)": "m",
		"(module m (type T" + strings.Repeat(" (A)", 99) + "))": "m", "(module module)": "module", "(module num x)": "num", "(module let)": "let", "(module m" + strings.Repeat(" ", 8182) + ")": "m", "(module m " + strings.Repeat("(", 39) + strings.Repeat(")", 40): "m",
		"(module m " + strings.Repeat("(export x)", 40) + ")": "m",
	} {
		wantName(t, source, want)
	}
}

// P17.2: a text that is no tree, or does not begin so, has no name.
func TestNoName(t *testing.T) {
	for _, source := range []string{
		"", " ", "; (module m)", "(", ")", "()", "m", "module", "module m", "\"m\"", "\"(module m)\"", "(module", "(module m", "(module m))", "(module m) x", "(module m) (module n)", "x (module m)", "(module m) \"", "(module m \"", "(module m \x00)", "(module m \"\\q\")", "(module m \x80)",
		"(module)", "(modul m)", "(modulem)", "(Module m)", "(module. m)", "(\"module\" m)", "((module) m)", "((module m))", "(m module)", "(m)", "(x module m)", "(() m)",
		"(module 9)", "(module 9m)", "(module M)", "(module \"m\")", "(module (m))", "(module () m)", "(module m.n)", "(module m-n)", "(module M m)", "(module 9 m)", "(module \"\" m)", "(module abcdefghijklmnopqrstuvwxy)", "(module \u00e4)", "(module m" + strings.Repeat(" ", 8183) + ")", "(module m " + strings.Repeat("(", 40) + strings.Repeat(")", 41),
	} {
		wantName(t, source, "")
	}
}

// P17.1, P17.2: what Source makes is of the module that Name tells; what it refuses may have a name, too.
func TestNameOfRefused(t *testing.T) {
	for _, one := range untyped() {
		wantName(t, one.source(), "m")
	}
	for _, one := range much() {
		wantName(t, within(one.marked), "m")
	}
}
