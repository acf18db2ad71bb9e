package lower_test

import (
	"strings"
	"testing"

	"hawser/api"
	"hawser/lower"
	"hawser/object"
	"hawser/sema"
	"hawser/verify"
)

// wrong is a module's items, and how it is refused.
type wrong struct {
	items string
	why   api.Errno
}

// wrongs are modules that sema refuses, of each refusal of names, of exports and of expressions.
func wrongs() []wrong {
	six := "(fn (num num num num num num) num)"
	long := nest(10, "(array ", "(fn ("+times(6, six)+") num)", ")") // 198 bytes
	return []wrong{
		{"(type T (A)) (type T (B))", api.ErrTaken}, {"(type T (A) (A))", api.ErrTaken}, {"(type T (A)) (type U (A))", api.ErrTaken}, {"(const f num 1) (fun f () num 1)", api.ErrTaken}, {"(fun f () num 1) (fun f () num 1)", api.ErrTaken}, {"(import n c c)", api.ErrTaken},
		{"(import m f) (fun f () num 1)", api.ErrName}, {"(import q x)", api.ErrNone}, {"(import n x)", api.ErrNone}, {"(import n c T) (import k c x)", api.ErrNone}, {"(import n e)", api.ErrNone},
		{"(type T (A U))", api.ErrType}, {"(type T (A n.T))", api.ErrType}, {"(const c k.V 1)", api.ErrType}, {"(fun f ((x T)) num 1)", api.ErrType}, {"(fun f () n.T 1)", api.ErrType},
		{"(const c (array " + long + ") 1)", api.ErrLong}, {"(const c " + long + " 1)", api.ErrType}, {"(fun f ((x " + long + ")) num 1)", api.ErrLong},
		{"(export q)", api.ErrNone}, {"(export f f) (fun f () num 1)", api.ErrTaken}, {"(import n c) (export c)", api.ErrNone},
		{"(const a num b) (const b num 1)", api.ErrName}, {"(const a num \"\")", api.ErrType}, {"(fun f () num q)", api.ErrName}, {"(fun f () num (q))", api.ErrName}, {"(fun f () num (B))", api.ErrName}, {"(fun f () num n.c)", api.ErrName}, {"(fun f () num (let x 1 y))", api.ErrName},
		{"(fun f () bytes 1)", api.ErrType}, {"(fun f () num (add 1 \"\"))", api.ErrType}, {"(fun f () num (if \"\" 1 2))", api.ErrType}, {"(fun f () num (if 1 1 \"\"))", api.ErrType}, {"(fun f () (array num) (array num 1 \"\"))", api.ErrType}, {"(fun f () num (len (array T)))", api.ErrType}, {"(fun f () num (match 1 ((A) 1)))", api.ErrType},
		{"(fun f () num (call 1))", api.ErrType}, {"(fun f () num (call (fn () num \"\")))", api.ErrType}, {"(fun f () num (call f 1))", api.ErrCount}, {"(fun f () num (f 1))", api.ErrCount}, {"(fun f () num (add 1))", api.ErrCount}, {"(fun f () num (cut \"\" 1))", api.ErrCount}, {"(type T (A num)) (fun f () T (A))", api.ErrCount},
		{"(type T (A) (B num)) (fun f ((t T)) num (match t ((A) 1)))", api.ErrCover}, {"(type T (A) (B num)) (fun f ((t T)) num (match t ((A) 1) ((A) 2) ((B x) 1)))", api.ErrTaken}, {"(type T (A) (B num)) (fun f ((t T)) num (match t ((A) 1) ((B) 1)))", api.ErrCount}, {"(type T (A) (B num)) (fun f ((t T)) num (match t ((A) 1) ((C) 1)))", api.ErrName}, {"(type T (A)) (type U (B)) (fun f ((t T)) num (match t ((B) 1)))", api.ErrType},
	}
}

// P16.1: what sema.Module refuses, with nothing beside it.
func TestRefused(t *testing.T) {
	seen := map[api.Errno]int{}
	for _, one := range wrongs() {
		m := read(t, "(module m "+one.items+")")
		if why, _, _ := sema.Module(m, others()); why != one.why {
			t.Errorf("%s: sema: %v, want %v", one.items, why, one.why)
		}
		wantRefused(t, m, others(), one.why)
		seen[one.why]++
	}
	for _, why := range []api.Errno{api.ErrTaken, api.ErrName, api.ErrNone, api.ErrType, api.ErrLong, api.ErrCover, api.ErrCount} {
		if seen[why] == 0 {
			t.Errorf("nothing is refused as %v", why)
		}
	}
}

// P16.1: that comes ahead of what is too much.
func TestRefusedAhead(t *testing.T) {
	long := "(array bytes" + strings.Repeat(" \""+strings.Repeat("x", 200)+"\"", 11) + ")"
	much := map[api.Errno]string{
		api.ErrMany:  "(fun much () num " + lets(25, "a", "1") + ")",
		api.ErrStack: "(fun much () num " + behind(31, ones(18)) + ")",
		api.ErrLong:  "(fun much () (array bytes) " + long + ")",
	}
	for why, items := range much {
		wantRefused(t, read(t, "(module m "+items+")"), others(), why)
		for _, one := range wrongs() {
			wantRefused(t, read(t, "(module m "+items+one.items+")"), others(), one.why)
			wantRefused(t, read(t, "(module m "+one.items+items+")"), others(), one.why)
		}
	}
}

// P16.1: behind what is too much types are still asked for, since cases are looked up by them.
func TestRefusedWithin(t *testing.T) {
	long := "(len (array bytes" + strings.Repeat(" \""+strings.Repeat("x", 200)+"\"", 11) + "))"
	high := "(if " + behind(31, ones(18)) + " 1 1)"
	few := "(if " + lets(24, "a", "1") + " (let a 1 (call (fn () num (let b a " + lets(23, "c", "1") + ")))) 1)"
	for body, why := range map[string]api.Errno{long: api.ErrLong, high: api.ErrStack, few: api.ErrMany} {
		for _, inner := range []string{
			"(match (match (if # (A) (B 1)) ((A) (A)) ((B x) (B x))) ((A) 1) ((B x) x))", "(match (let y # (A)) ((B x) x) ((A) 1))", "(match (at (array T (B #)) #) ((B x) x) ((A) 1))", "(match (call (fn () T (B #))) ((B x) x) ((A) 1))", "(match (g (B #)) ((B x) x) ((A) 1))", "(match (call (h #)) ((B x) x) ((A) 1))", "(match (call (at (cat (array (fn () T)) (array (fn () T) (h #))) #)) ((B x) x) ((A) #))",
			"(len (cut (cat \"\" \"\") # #))", "(len (cat (array num #) (array num)))", "(call (call (fn () (fn (num) num) (fn ((y num)) num (add y #)))) 1)", "(let f (fn ((y num)) num #) (call f (call f #)))", "(match (A) ((A) (match (B #) ((A) #) ((B x) (add # x)))) ((B x) (match (B x) ((A) 1) ((B y) #))))",
		} {
			m := read(t, "(module m (type T (A) (B num)) (fun g ((t T)) T t) (fun h ((x num)) (fn () T) (fn () T (B x))) (fun f () num "+strings.Replace(strings.Replace(inner, "#", body, 1), "#", "1", -1)+"))")
			wantRefused(t, m, nil, why)
		}
	}
}

// P16.1: interfaces that lack what is imported, or that show something unlike it.
func TestInterfacesUnlike(t *testing.T) {
	m := read(t, "(module m (import n T c f) (export g) (fun g ((t n.T)) num (match t ((n.P x) (add x n.c)) ((n.Q) (match (n.f 1) ((n.P x) x) ((n.Q) 0))))))")
	turned := func(turn func(l []api.Item) []api.Item) []api.Iface {
		l := others()
		l[0].Items = turn(l[0].Items)
		return l
	}
	o := wantObject(t, m, others())
	for name, one := range map[string]struct {
		l            []api.Iface
		why, checked api.Errno // what Module answers; what verify.Object answers of the object that was made ahead
	}{
		"none":             {nil, api.ErrNone, api.ErrNone},
		"another alone":    {others()[1:2], api.ErrNone, api.ErrNone},
		"the second first": {[]api.Iface{others()[2], others()[0]}, api.ErrNone, api.ErrMissing},
		"without c":        {turned(func(l []api.Item) []api.Item { return append(l[:2:2], l[3:]...) }), api.ErrNone, api.ErrMissing},
		"without T":        {turned(func(l []api.Item) []api.Item { return l[1:] }), api.ErrNone, api.ErrMissing},
		"c of bytes":       {turned(func(l []api.Item) []api.Item { l[2].Type = "bytes"; return l }), api.ErrType, api.ErrSignature},
		"c a function":     {turned(func(l []api.Item) []api.Item { l[2] = funItem("c", "()num"); return l }), api.ErrType, api.ErrSignature},
		"f a const":        {turned(func(l []api.Item) []api.Item { l[4] = constItem("f", "num"); return l }), api.ErrName, api.ErrSignature},
		"f of two":         {turned(func(l []api.Item) []api.Item { l[4].Type = "(num,num)n.T"; return l }), api.ErrCount, api.ErrSignature},
		"T with a case":    {turned(func(l []api.Item) []api.Item { l[0].Cases = append(l[0].Cases, caseOf("R")); return l }), api.ErrCover, api.ErrSignature},
		"T with a field":   {turned(func(l []api.Item) []api.Item { l[0].Cases[1].Fields = []string{"num"}; return l }), api.ErrCount, api.ErrSignature},
		"T without a case": {turned(func(l []api.Item) []api.Item { l[0].Cases = l[0].Cases[:1]; return l }), api.ErrName, api.ErrSignature},
	} {
		wantRefused(t, m, one.l, one.why)
		if why, _, _ := verify.Object(o, one.l); why != one.checked {
			t.Errorf("%s: verify: %v, want %v", name, why, one.checked)
		}
	}
	swapped := turned(func(l []api.Item) []api.Item {
		l[0].Cases[0], l[0].Cases[1] = l[0].Cases[1], l[0].Cases[0]
		return l
	})
	wantObject(t, m, swapped)
	if why, _, _ := verify.Object(o, swapped); why != api.ErrSignature {
		t.Errorf("cases in another order: %v", why)
	}
}

// R3: a refused call leaves nothing behind for a later one.
func TestRefusedLeavesNothing(t *testing.T) {
	m := read(t, ordinaries()[len(ordinaries())-1])
	first := wantObject(t, m, others())
	for _, one := range wrongs() {
		lower.Module(read(t, "(module m "+one.items+")"), others())
		if again, why := lower.Module(m, others()); why != api.OK || !sameObject(again, first) {
			t.Fatalf("behind %s: %v, %+v", one.items, why, again)
		}
	}
}

func sameObject(a, b object.Object) bool {
	x, _ := object.Encode(a)
	y, _ := object.Encode(b)
	return len(x) > 0 && string(x) == string(y)
}
