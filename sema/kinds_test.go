package sema_test

import (
	"fmt"
	"strings"
	"testing"

	"hawser/api"
)

// P9.1: Let.
func TestLet(t *testing.T) {
	here(t).wantTypes(t, map[string]string{
		"(let x 1 x)": "num", "(let x 1 b)": "bytes", "(let a b a)": "bytes", "(let x (let y b y) (let z x z))": "bytes", "(let x w x)": "k.W", "(let x g (call x 1 u))": "num", "(let x (A) (let y x (array U x y u)))": "[m.U]",
	})
	here(t).wantAllRefused(t, map[string]api.Errno{
		"(let x @q x)": api.ErrName, "(let x 1 @y)": api.ErrName, "(let x @q r2)": api.ErrName, "(let x @(add 1) q)": api.ErrCount, "(let x (neg @b) q)": api.ErrType, "(let x b (neg @x))": api.ErrType,
	})
}

// P9.1: If.
func TestIf(t *testing.T) {
	here(t).wantTypes(t, map[string]string{
		"(if a b b)": "bytes", "(if 1 1 a)": "num", "(if (lt 1 2) u (A))": "m.U", "(if 1 w w)": "k.W", "(if 1 (fn () num 1) z)": "()num", "(if (if 1 2 3) n.f n.e)": "(num)n.T", "(if 1 (array num) l)": "[num]",
	})
	for name := range typesOfLeaves() {
		if name != "a" {
			here(t).wantRefused(t, "(if @"+name+" 1 1)", api.ErrType)
			here(t).wantRefused(t, "@(if 1 a "+name+")", api.ErrType)
			here(t).wantRefused(t, "@(if a "+name+" 1)", api.ErrType)
		}
	}
	here(t).wantAllRefused(t, map[string]api.Errno{
		"(if @q 1 1)": api.ErrName, "(if 1 @q b)": api.ErrName, "(if 1 b @q)": api.ErrName, "(if @q r2 s2)": api.ErrName, "(if b @q s2)": api.ErrName, "(if b 1 @q)": api.ErrName, "(if @b 1 b)": api.ErrType, "(if @b 1 1)": api.ErrType, "@(if 1 t v)": api.ErrType, "@(if 1 l r)": api.ErrType, "@(if 1 n.f z)": api.ErrType, "(if 1 (if @b 1 1) b)": api.ErrType,
	})
}

// typesOfLeaves are a name or a source of each sort of type.
func typesOfLeaves() map[string]string {
	return map[string]string{"a": "num", "b": "bytes", "l": "[num]", "r": "[bytes]", "ws": "[k.W]", "u": "m.U", "t": "n.T", "w": "k.W", "p": "(num)bytes", "z": "()num", "(array U)": "[m.U]"}
}

// fitsOp tells what an operation's first Kid that may not be is, by the document's table; -1, if there is none; and its type.
func fitsOp(op string, kids []string) (int, string) {
	row := func(s string) bool { return s == "bytes" || s[0] == '[' }
	var may []bool
	typed := "num"
	switch op {
	case "eq":
		may = []bool{kids[0] == "num" || kids[0] == "bytes", kids[0] == kids[1]}
	case "cat":
		may, typed = []bool{row(kids[0]), kids[0] == kids[1]}, kids[0]
	case "len":
		may = []bool{row(kids[0])}
	case "at":
		may = []bool{row(kids[0]), kids[1] == "num"}
		if kids[0][0] == '[' {
			typed = kids[0][1 : len(kids[0])-1]
		}
	case "cut":
		may, typed = []bool{kids[0] == "bytes", kids[1] == "num", kids[2] == "num"}, "bytes"
	default:
		for _, kid := range kids {
			may = append(may, kid == "num")
		}
	}
	for k, is := range may {
		if !is {
			return k, ""
		}
	}
	return -1, typed
}

// counts are the operations with the number of Kids that they take.
func counts() map[string]int {
	return map[string]int{"add": 2, "sub": 2, "mul": 2, "neg": 1, "conj": 1, "re": 1, "im": 1, "eq": 2, "lt": 2, "cat": 2, "len": 1, "at": 2, "cut": 3}
}

// P9.1: each operation over Kids of each sort of type.
func TestOps(t *testing.T) {
	x := here(t)
	for op, n := range counts() {
		rows := [][]string{{}}
		for range n {
			var longer [][]string
			for _, row := range rows {
				for name := range typesOfLeaves() {
					longer = append(longer, append(row[:len(row):len(row)], name))
				}
			}
			rows = longer
		}
		for _, row := range rows {
			var kids []string
			for _, name := range row {
				kids = append(kids, typesOfLeaves()[name])
			}
			wrong, typed := fitsOp(op, kids)
			if wrong < 0 {
				x.wantType(t, "("+op+" "+strings.Join(row, " ")+")", typed)
				continue
			}
			row[wrong] = "@" + row[wrong]
			x.wantRefused(t, "("+op+" "+strings.Join(row, " ")+")", api.ErrType)
		}
	}
}

// P9.1: an operation with another number of Kids than it takes, ahead of whatever its Kids are.
func TestOpCount(t *testing.T) {
	for op, n := range counts() {
		for k := range 40 {
			if k != n {
				for _, kid := range []string{" 1", " b", " q", " (add q)", " l"} {
					here(t).wantRefused(t, "@("+op+strings.Repeat(kid, k)+")", api.ErrCount)
				}
			}
		}
	}
}

// P9.1: what is refused of an operation's Kids comes ahead of their types.
func TestOpKids(t *testing.T) {
	here(t).wantTypes(t, map[string]string{
		"(add (mul a 2i) (neg (re a)))": "num", "(at (at (array (array num) l) 0) 0)": "num", "(cat (cat b \"\") (cut b (len b) (at b 0)))": "bytes", "(eq (cat b b) (at r 0))": "num", "(at ws 0)": "k.W", "(cat ws ws)": "[k.W]", "(at (cat (array U) (array U u)) 1)": "m.U", "(at (array (fn () num) z) 0)": "()num", "(lt (len l) (len (array num)))": "num",
	})
	here(t).wantAllRefused(t, map[string]api.Errno{
		"(add @q r2)": api.ErrName, "(add b @q)": api.ErrName, "(add @b b)": api.ErrType, "(eq l @q)": api.ErrName, "(eq @l b)": api.ErrType, "(cat 1 @q)": api.ErrName, "(at 1 @q)": api.ErrName, "(at b @b)": api.ErrType, "(cut 1 b @q)": api.ErrName, "(cut b @b b)": api.ErrType, "(cut b 1 @l)": api.ErrType, "(cut @1 b b)": api.ErrType, "(len @q)": api.ErrName, "(neg @(add 1))": api.ErrCount, "(add (add 1 @b) q)": api.ErrType, "(add b (add 1 @b))": api.ErrType,
	})
}

// longTypes are types of long names, for texts of any length.
const longTypes = `(type T (T1)) (type Longlonglonglonglonglong (L1))`

// long is a source of a function's type of n bytes, for 30 and more: of names, and of arrays for the rest.
func long(n int) string {
	params, size := "T", len("(m.T)num")
	for k := 1; k <= api.MaxParams; k++ {
		if more := 27*k + len("()num") - 1; more <= n && more%2 == n%2 {
			params, size = strings.Repeat(" Longlonglonglonglonglong", k), more
		}
	}
	arrays := (n - size) / 2
	return "(fn (" + params + ") " + strings.Repeat("(array ", arrays) + "num" + strings.Repeat(")", arrays) + ")"
}

// P9.1: List.
func TestList(t *testing.T) {
	here(t).wantTypes(t, map[string]string{
		"(array num)": "[num]", "(array num 1 a (z))": "[num]", "(array bytes b \"\")": "[bytes]", "(array (array num) l (array num))": "[[num]]", "(array U (A) u)": "[m.U]", "(array m.U u)": "[m.U]", "(array n.T t (n.f 1))": "[n.T]", "(array k.T (k.P))": "[k.T]", "(array (fn (num) n.T) n.f n.e)": "[(num)n.T]", "(array (fn () num) z (fn () num 1))": "[()num]",
		"(array num" + strings.Repeat(" a", 32) + ")": "[num]",
	})
	here(t).wantAllRefused(t, map[string]api.Errno{
		"@(array k.W)": api.ErrType, "@(array k.W w)": api.ErrType, "@(array q.T)": api.ErrType, "@(array T)": api.ErrType, "@(array n.Hidden)": api.ErrType, "@(array (array k.W) ws)": api.ErrType, "@(array (fn (k.W) num))": api.ErrType, "@(array k.W q)": api.ErrType, "@(array k.W 1 (add 1))": api.ErrType, "@(array P)": api.ErrType, "@(array n.P)": api.ErrType,
		"(array num @b)": api.ErrType, "(array num 1 @b b)": api.ErrType, "(array num @l)": api.ErrType, "(array (array num) @1)": api.ErrType, "(array U @t)": api.ErrType, "(array n.T @v)": api.ErrType, "(array num b @q)": api.ErrName, "(array num @q r2)": api.ErrName, "(array num b @(add 1))": api.ErrCount,
	})
}

// P9.1: a List's array of MaxText bytes and longer: ErrLong comes behind the Kids.
func TestLongList(t *testing.T) {
	m := parsed(t, "(module m "+longTypes+")")
	for n := 100; n <= api.MaxText; n++ {
		of := long(n)
		x := setting{m: m, s: scopeOf(t, m)}
		if n+2 <= api.MaxText {
			e := read(t, "(array "+of+")")
			if len(e.Type) != n {
				t.Fatalf("%s: a type of %d bytes", of, n)
			}
			x.wantType(t, "(array "+of+")", "["+e.Type+"]")
			continue
		}
		x.wantRefused(t, "@(array "+of+")", api.ErrLong)
		x.wantRefused(t, "(array "+of+" @1)", api.ErrType)
		x.wantRefused(t, "(array "+of+" 1 @q)", api.ErrName)
		x.wantRefused(t, "(let l @(array "+of+") q)", api.ErrLong)
		x.wantRefused(t, "(len @(array "+of+"))", api.ErrLong)
		x.with(api.Param{Name: "x", Type: read(t, "(array "+of+")").Type}).wantRefused(t, "@(array "+of+" x x)", api.ErrLong)
	}
}

// P9.1: Make.
func TestMake(t *testing.T) {
	here(t).wantTypes(t, map[string]string{
		"(A)": "m.U", "(B 1 b)": "m.U", "(C (C u (array n.T)) (array n.T t))": "m.U", "(Only)": "m.One", "(Q 1)": "m.Q", "(n.P 1)": "n.T", "(n.Q)": "n.T", "(n.R (n.P 1) (array n.V v))": "n.V", "(k.P)": "k.T", "(k.Q 1)": "k.T", "(let x (A) x)": "m.U",
	})
	here(t).with(api.Param{Name: "h", Type: "n.Hidden"}).wantType(t, "(n.S w h)", "n.S") // fields of types that are not Known
	here(t).wantAllRefused(t, map[string]api.Errno{
		"@(Z)": api.ErrName, "@(P 1)": api.ErrName, "@(n.A)": api.ErrName, "@(m.A)": api.ErrName, "@(n.H)": api.ErrName, "@(k.R)": api.ErrName, "@(q.P)": api.ErrName, "@(U)": api.ErrName, "@(n.T)": api.ErrName, "@(Z q)": api.ErrName, "@(Z (add 1))": api.ErrName,
		"@(A 1)": api.ErrCount, "@(B)": api.ErrCount, "@(B 1)": api.ErrCount, "@(B 1 b 1)": api.ErrCount, "@(B q)": api.ErrCount, "@(A q)": api.ErrCount, "@(n.P)": api.ErrCount, "@(n.P q q)": api.ErrCount, "@(B b (add 1) q)": api.ErrCount, "@(k.P 1)": api.ErrCount, "@(n.P 1 2)": api.ErrCount,
		"(B @q r2)": api.ErrName, "(B b @q)": api.ErrName, "(B b @(add 1))": api.ErrCount, "(B @b b)": api.ErrType, "(B 1 @1)": api.ErrType, "(B @b 1)": api.ErrType, "(C @t l)": api.ErrType, "(C u @l)": api.ErrType, "(n.R @(n.Q 1) q)": api.ErrCount, "(n.R @v (array n.V))": api.ErrType, "(n.R t @(array n.T))": api.ErrType, "(n.S @t t)": api.ErrType, "(n.S w @t)": api.ErrType,
	})
}

// P9.1: Match over all cases, in whatever order.
func TestMatch(t *testing.T) {
	here(t).wantTypes(t, map[string]string{
		"(match u ((A) 1) ((B x y) x) ((C x y) 2))":                                       "num",
		"(match u ((C x y) b) ((A) \"\") ((B x y) y))":                                    "bytes",
		"(match u ((B x y) (A)) ((C x y) x) ((A) u))":                                     "m.U",
		"(match u ((B x y) t) ((C x y) (at y 0)) ((A) (n.Q)))":                            "n.T",
		"(match t ((n.P u) u) ((n.Q) 2))":                                                 "num",
		"(match (Only) ((Only) w))":                                                       "k.W",
		"(match (Q 1) ((Q x) x))":                                                         "num",
		"(match (k.Q 1) ((k.P) 1) ((k.Q x) x))":                                           "num",
		"(match s ((n.S x y) x))":                                                         "k.W",      // of a field whose type is not Known
		"(match s ((n.S x y) y))":                                                         "n.Hidden", // nor this one
		"(match (match t ((n.P u) (A)) ((n.Q) u)) ((A) 1) ((B x y) 1) ((C x y) (len y)))": "num",
		"(match t ((n.P t) (match u ((A) t) ((B t x) t) ((C x t) 1))) ((n.Q) (match t ((n.P x) x) ((n.Q) 1))))": "num",
		"(match t ((n.P x) (fn () num x)) ((n.Q) z))":                                                           "()num",
	})
	here(t).wantAllRefused(t, map[string]api.Errno{
		"(match @q ((Z) 1))": api.ErrName, "(match @(add 1) ((Z) 1))": api.ErrCount, "(match @1 ((A) 1))": api.ErrType, "(match @b ((A) 1))": api.ErrType, "(match @l ((A) q))": api.ErrType, "(match @z ((Z) 1))": api.ErrType, "(match @w ((Z) 1))": api.ErrType, "(match @w ((k.P) 1))": api.ErrType, "(match @(array U) ((A) 1))": api.ErrType, "(match @g ((A) 1) ((A) 1))": api.ErrType,
		"@(match u ((Z) 1))": api.ErrName, "@(match u ((n.Z) 1))": api.ErrName, "@(match u ((U) 1))": api.ErrName, "@(match u ((m.A) 1))": api.ErrName, "@(match t ((P x) 1))": api.ErrName, "@(match u ((Z x) q))": api.ErrName, "@(match u ((A) 1) ((Z) q))": api.ErrName,
		"@(match u ((Only) 1))": api.ErrType, "@(match u ((n.P x) 1))": api.ErrType, "@(match t ((Q x) 1))": api.ErrType, "@(match t ((k.P) 1))": api.ErrType, "@(match u ((Only x) q))": api.ErrType, "@(match u ((A) 1) ((n.Q) 1))": api.ErrType, "@(match (Q 1) ((n.Q) 1))": api.ErrType, "@(match u ((A) 1) ((Only) 1) ((A) 1))": api.ErrType,
		"@(match v ((n.P x) 1))": api.ErrType, "@(match v ((n.R x y) 1) ((n.P x) 1))": api.ErrType, // n.P is of n.T, the first one
		"@(match u ((A) 1) ((A) 1))": api.ErrTaken, "@(match u ((A) 1) ((A x) q))": api.ErrTaken, "@(match u ((A) 1) ((B x y) 1) ((A) q) ((C x y) 1))": api.ErrTaken, "@(match u ((B x y) 1) ((B x) q))": api.ErrTaken, "@(match u ((A) 1) ((B x y) 1) ((C x y) 1) ((C x y) 1))": api.ErrTaken, "@(match t ((n.Q) 1) ((n.P x) x) ((n.Q) b))": api.ErrTaken,
		"@(match u ((A x) 1))": api.ErrCount, "@(match u ((B x) 1))": api.ErrCount, "@(match u ((B) q))": api.ErrCount, "@(match u ((B x y z) q))": api.ErrCount, "@(match u ((A) 1) ((C x) q))": api.ErrCount, "@(match t ((n.P) 1))": api.ErrCount, "@(match t ((n.Q x) 1))": api.ErrCount,
		"(match u ((A) @q) ((Z) 1))": api.ErrName, "(match u ((A) @q) ((A) 1))": api.ErrName, "(match u ((B x y) @z2))": api.ErrName, "(match u ((A) 1) ((B x y) @(add x)) ((Z) 1))": api.ErrCount, "(match u ((A) 1) ((B x y) (add x @y)))": api.ErrType,
		"(match u ((A) 1) ((B x y) @y) ((Z) 1))": api.ErrType, "(match u ((A) 1) ((B x y) x) ((C x y) @y))": api.ErrType, "(match u ((A) b) ((B x y) @x))": api.ErrType, "(match t ((n.P x) t) ((n.Q) @v))": api.ErrType, "(match u ((A) b) ((B x y) @1) ((C x y) q))": api.ErrType,
		"@(match u ((A) 1))": api.ErrCover, "@(match u ((B x y) 1) ((A) 1))": api.ErrCover, "@(match u ((C x y) 1) ((B x y) 1))": api.ErrCover, "@(match t ((n.Q) 1))": api.ErrCover, "@(match v ((n.R x y) 1))": api.ErrCover, "@(match (k.P) ((k.P) 1))": api.ErrCover,
		"(neg @(match u ((A) b) ((B x y) b) ((C x y) b)))": api.ErrType,
	})
}

// P9.1: a Match over a type of as many cases as may be, without one of them, and with one of them twice.
func TestMatchLacksOne(t *testing.T) {
	m := parsed(t, "(module m (type T (A) (B num) (C num num) (D num num num) (E num num num num) (F bytes)))")
	x := setting{m: m, s: scopeOf(t, m), locals: []api.Param{{Name: "t", Type: "m.T"}}}
	arms := []string{" ((A) 1)", " ((B x) x)", " ((C x y) (add x y))", " ((D x y z) z)", " ((E a b c d) (add (add a b) (add c d)))", " ((F x) (len x))"}
	x.wantType(t, "(match t"+strings.Join(arms, "")+")", "num")
	for k := range arms {
		rest := strings.Join(arms[:k], "") + strings.Join(arms[k+1:], "")
		x.wantRefused(t, "@(match t"+rest+")", api.ErrCover)
		for n := range arms {
			if n != k {
				x.wantRefused(t, "@(match t"+rest+arms[n]+")", api.ErrTaken)
				x.wantRefused(t, "@(match t"+arms[n]+rest+")", api.ErrTaken)
			}
		}
		x.wantType(t, "(match t"+arms[k]+rest+")", "num")
	}
}

// P9.1: Lambda.
func TestLambda(t *testing.T) {
	here(t).wantTypes(t, map[string]string{
		"(fn () num 1)": "()num", "(fn ((x num)) num x)": "(num)num", "(fn ((x num) (y U)) bytes b)": "(num,m.U)bytes", "(fn ((a bytes)) bytes a)": "(bytes)bytes", "(fn ((x n.T)) (array n.T) (array n.T x t))": "(n.T)[n.T]", "(fn () (fn () num) (fn () num a))": "()()num", "(fn ((x (fn (num) n.T))) n.T (call x 1))": "((num)n.T)n.T", "(fn ((x num)) (fn (num) num) (fn ((y num)) num (add (add x y) one)))": "(num)(num)num", "(fn () (fn () num) z)": "()()num",
		"(fn ((x num) (y num) (z num) (p num) (q num) (r num)) num r)": "(num,num,num,num,num,num)num", "(fn () num (let x w 1))": "()num",
	})
	here(t).wantAllRefused(t, map[string]api.Errno{
		"@(fn () k.W w)": api.ErrType, "@(fn ((x k.W)) num 1)": api.ErrType, "@(fn ((x num) (y (array q.Q))) num 1)": api.ErrType, "@(fn () (fn (T) num) 1)": api.ErrType, "@(fn ((x n.Hidden)) num q)": api.ErrType, "@(fn () q.Q (add 1))": api.ErrType, "@(fn ((x q.Q)) q.Q q)": api.ErrType,
		"(fn () num @q)": api.ErrName, "(fn ((x num)) num @y)": api.ErrName, "(fn () num @(add 1))": api.ErrCount, "(fn () num @b)": api.ErrType, "(fn ((x bytes)) num @x)": api.ErrType, "(fn ((a bytes)) num @a)": api.ErrType, "(fn () (fn () num) (fn () num @b))": api.ErrType, "(fn () (fn () num) @(fn () bytes b))": api.ErrType, "(fn () n.T @v)": api.ErrType, "(fn () num @z)": api.ErrType,
	})
}

// P9.1: a Lambda's type of MaxText bytes and longer: behind a type that is not Known, ahead of its Kid.
func TestLongLambda(t *testing.T) {
	m := parsed(t, "(module m "+longTypes+")")
	x := setting{m: m, s: scopeOf(t, m)}
	for n := 120; n <= 2*api.MaxText; n++ {
		var heads []string
		if n-2 <= api.MaxText {
			heads = append(heads, "(fn () "+long(n-2))
		}
		if n-5 <= api.MaxText {
			heads = append(heads, "(fn ((x "+long(n-5)+")) num")
		}
		if n-2-100 <= api.MaxText && n-2-100 >= 100 {
			heads = append(heads, "(fn ((x "+long(n-102)+")) "+long(100), "(fn ((x "+long(70)+") (y "+long(29+n-132)+")) "+long(30))
		}
		for _, head := range heads {
			e := read(t, head+" 1)")
			typed := "()" + e.Type
			if len(e.Params) == 1 {
				typed = "(" + e.Params[0].Type + ")" + e.Type
			} else if len(e.Params) == 2 {
				typed = "(" + e.Params[0].Type + "," + e.Params[1].Type + ")" + e.Type
			}
			if len(typed) != n {
				t.Fatalf("%s: a type of %d bytes, want %d", head, len(typed), n)
			}
			if n > api.MaxText {
				x.wantRefused(t, "@"+head+" 1)", api.ErrLong)
				x.wantRefused(t, "@"+head+" q)", api.ErrLong)
				x.wantRefused(t, "(len @"+head+" q))", api.ErrLong)
				continue
			}
			x.with(api.Param{Name: "result", Type: e.Type}).wantType(t, head+" result)", typed)
			x.wantRefused(t, head+" @q)", api.ErrName)
		}
	}
	x.wantRefused(t, fmt.Sprintf("@(fn ((x %s)) q.Q 1)", long(200)), api.ErrType)
	x.wantRefused(t, fmt.Sprintf("@(fn ((x %s) (y q.Q)) num 1)", long(200)), api.ErrType)
}

// P9.1: Apply.
func TestApply(t *testing.T) {
	here(t).wantTypes(t, map[string]string{
		"(call p 1)": "bytes", "(call z)": "num", "(call g 1 u)": "num", "(call (fn () num 1))": "num", "(call (fn ((x num) (y U)) U y) 1 (A))": "m.U", "(call n.f 1)": "n.T", "(call n.e 1)": "n.T", "(call n.h)": "k.W", "(call pw w)": "[k.W]", "(call three 1)": "bytes", "(call (call (fn ((x num)) (fn (bytes) num) (fn ((y bytes)) num x)) 1) b)": "num", "(call six 1 2 3 b b b)": "k.T", "(call (if 1 n.f n.e) 1)": "n.T", "(call (at (array (fn () num) z) 0))": "num", "(call n.i w 1)": "num", "(call id (array U))": "[m.U]", "(call (let f z f))": "num",
	})
	here(t).wantAllRefused(t, map[string]api.Errno{
		"(call @q)": api.ErrName, "(call p @q)": api.ErrName, "(call a @q)": api.ErrName, "(call p 1 @q)": api.ErrName, "(call p b @q)": api.ErrName, "(call @(add 1) q)": api.ErrCount, "(call z @(add 1))": api.ErrCount,
		"(call @a)": api.ErrType, "(call @a 1)": api.ErrType, "(call @b 1 2)": api.ErrType, "(call @l 0)": api.ErrType, "(call @u)": api.ErrType, "(call @w)": api.ErrType, "(call @(z))": api.ErrType, "(call @(array (fn () num) z))": api.ErrType, "(call @(call z))": api.ErrType,
		"@(call p)": api.ErrCount, "@(call p 1 2)": api.ErrCount, "@(call p b b)": api.ErrCount, "@(call z 1)": api.ErrCount, "@(call g 1)": api.ErrCount, "@(call g b b b)": api.ErrCount, "@(call (fn () num 1) b)": api.ErrCount, "@(call six 1 2 3 b b)": api.ErrCount, "@(call z 1 2 3 4 5 6)": api.ErrCount,
		"(call p @b)": api.ErrType, "(call g @b u)": api.ErrType, "(call g 1 @1)": api.ErrType, "(call g @b 1)": api.ErrType, "(call pw @t)": api.ErrType, "(call six 1 2 3 b b @6)": api.ErrType, "(call six 1 2 @b b b 6)": api.ErrType, "(call n.i @t 1)": api.ErrType, "(call (fn ((x (fn () num))) num 1) @p)": api.ErrType,
	})
}

// P9.1: Call.
func TestCall(t *testing.T) {
	here(t).wantTypes(t, map[string]string{
		"(z)": "num", "(g 1 (A))": "num", "(g (z) u)": "num", "(id (id (array U)))": "[m.U]", "(n.f 1)": "n.T", "(n.h)": "k.W", "(n.i (n.h) 1)": "num", "(n.i w 1)": "num", "(six 1 2 3 b b b)": "k.T", "(let g 1 (g g u))": "num", "(call (fn ((z num)) num (add z (z))) 1)": "num",
	})
	here(t).wantAllRefused(t, map[string]api.Errno{
		"@(q)": api.ErrName, "@(q r2)": api.ErrName, "@(q (add 1))": api.ErrName, "@(one)": api.ErrName, "@(three 1)": api.ErrName, "@(n.c)": api.ErrName, "@(n.e 1)": api.ErrName, "@(p 1)": api.ErrName, "@(a)": api.ErrName, "@(f 1)": api.ErrName, "@(m.g 1 u)": api.ErrName, "@(n.hidden)": api.ErrName, "@(k.f 1)": api.ErrName, "@(q.f 1)": api.ErrName, "(let f z @(f))": api.ErrName,
		"@(z 1)": api.ErrCount, "@(z q)": api.ErrCount, "@(g 1)": api.ErrCount, "@(g q)": api.ErrCount, "@(g (add 1) q r2)": api.ErrCount, "@(g b b b)": api.ErrCount, "@(n.f)": api.ErrCount, "@(n.h 1)": api.ErrCount, "@(six 1 2 3 b b)": api.ErrCount, "@(z 1 2 3 4 5 6)": api.ErrCount,
		"(g @q r2)": api.ErrName, "(g b @q)": api.ErrName, "(g b @(add 1))": api.ErrCount, "(g @b u)": api.ErrType, "(g 1 @1)": api.ErrType, "(g @b b)": api.ErrType, "(n.f @b)": api.ErrType, "(n.i @t b)": api.ErrType, "(id @(array n.T))": api.ErrType, "(six 1 2 3 b @5 6)": api.ErrType,
	})
}
