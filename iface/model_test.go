package iface_test

import (
	"encoding/binary"
	"fmt"
	"regexp"
	"slices"
	"strings"

	"hawser/api"
	"hawser/types"
)

// The model: P7.1 to P7.4 told once more, by all faults at once, by patterns and by what is thrown.

var (
	valueRule = regexp.MustCompile(`^[a-z_][A-Za-z0-9_]{0,23}$`)
	bigRule   = regexp.MustCompile(`^[A-Z][A-Za-z0-9_]{0,23}$`)
)

// fault is a refusal, and where it stands among all that could be: by item, step, case and step.
type fault struct {
	rank []int
	why  api.Errno
}

// rightByFaults gathers all that is wrong with an interface, and takes the first.
func rightByFaults(i api.Iface) api.Errno {
	var faults []fault
	note := func(is bool, why api.Errno, rank ...int) {
		if is {
			faults = append(faults, fault{rank, why})
		}
	}
	note(!valueRule.MatchString(i.Module), api.ErrName, -2)
	note(len(i.Items) > 32, api.ErrMany, -1)
	ahead := ""
	for k, x := range i.Items {
		isType := x.Kind == 1
		rule := valueRule
		if isType {
			rule = bigRule
		}
		note(!slices.Contains([]int{1, 2, 3}, x.Kind), api.ErrForm, k, 0)
		note(!rule.MatchString(x.Name) || strings.Compare(ahead, x.Name) >= 0, api.ErrName, k, 1)
		note(isType && (len(x.Type) > 0 || len(x.Cases) < 1 || 6 < len(x.Cases)), api.ErrForm, k, 2)
		had := map[string]int{}
		for n, c := range x.Cases {
			had[c.Name]++
			note(isType && (!bigRule.MatchString(c.Name) || had[c.Name] > 1), api.ErrName, k, 3, n, 0)
			note(isType && len(c.Fields) > 4, api.ErrCount, k, 3, n, 1)
			note(isType && slices.ContainsFunc(c.Fields, func(s string) bool { return !types.Right(s) }), api.ErrType, k, 3, n, 2)
		}
		note(!isType && len(x.Cases) > 0, api.ErrForm, k, 4)
		note(!isType && (!types.Right(x.Type) || x.Kind == 3 && x.Type[0] != '('), api.ErrType, k, 5)
		ahead = x.Name
	}
	if len(faults) == 0 {
		return api.OK
	}
	return slices.MinFunc(faults, func(a, b fault) int { return slices.Compare(a.rank, b.rank) }).why
}

// bytesByHand writes any interface, a right one or not; a Kind below 0 it can't.
func bytesByHand(i api.Iface) (b []byte) {
	number := func(n int) { b = binary.AppendUvarint(b, uint64(n)) }
	text := func(s string) {
		number(len(s))
		b = append(b, s...)
	}
	text(i.Module)
	number(len(i.Items))
	for _, x := range i.Items {
		number(x.Kind)
		text(x.Name)
		if x.Kind != 1 {
			text(x.Type)
			continue
		}
		number(len(x.Cases))
		for _, c := range x.Cases {
			text(c.Name)
			number(len(c.Fields))
			for _, s := range c.Fields {
				text(s)
			}
		}
	}
	return b
}

type refusal struct {
	why api.Errno
	at  int
}

// rest is what is not read yet, and how many bytes there were at first.
type rest struct {
	b     []byte
	whole int
}

func (r *rest) number(most uint64) int {
	at := r.whole - len(r.b)
	n, size := binary.Uvarint(r.b)
	switch {
	case size < 0 || size == 0 && len(r.b) >= 10:
		panic(refusal{api.ErrForm, at})
	case size == 0:
		panic(refusal{api.ErrEnd, r.whole})
	case size > 1 && r.b[size-1] == 0:
		panic(refusal{api.ErrForm, at})
	case n > most:
		panic(refusal{api.ErrLong, at})
	}
	r.b = r.b[size:]
	return int(n)
}

func (r *rest) text(most uint64) string {
	n := r.number(most)
	if n > len(r.b) {
		panic(refusal{api.ErrEnd, r.whole})
	}
	s := string(r.b[:n])
	r.b = r.b[n:]
	return s
}

func (r *rest) iface() (i api.Iface) {
	i.Module = r.text(24)
	for range r.number(65535) {
		x := api.Item{Kind: r.number(65535)}
		x.Name = r.text(24)
		if x.Kind != 1 {
			x.Type = r.text(200)
			i.Items = append(i.Items, x)
			continue
		}
		for range r.number(65535) {
			c := api.Case{Name: r.text(24)}
			for range r.number(65535) {
				c.Fields = append(c.Fields, r.text(200))
			}
			x.Cases = append(x.Cases, c)
		}
		i.Items = append(i.Items, x)
	}
	if len(r.b) > 0 {
		panic(refusal{api.ErrTail, r.whole - len(r.b)})
	}
	return i
}

func decodeByThrows(b []byte) (i api.Iface, why api.Errno, at int) {
	defer func() {
		if got := recover(); got != nil {
			r := got.(refusal)
			i, why, at = api.Iface{}, r.why, r.at
		}
	}()
	i = (&rest{b, len(b)}).iface()
	if why := rightByFaults(i); why != api.OK {
		panic(refusal{why, 0})
	}
	return i, api.OK, 0
}

// breaksByTexts holds items against each other by how they are told.
func breaksByTexts(old, next api.Iface, used []string) (broken []string) {
	ways := func(i api.Iface) map[string]string {
		l := map[string]string{}
		for _, x := range i.Items {
			if l[x.Name] == "" {
				l[x.Name] = toldItem(x)
			}
		}
		return l
	}
	was, is := ways(old), ways(next)
	for name := range was {
		if slices.Contains(used, name) && was[name] != is[name] {
			broken = append(broken, name)
		}
	}
	slices.Sort(broken)
	return broken
}

func toldItem(x api.Item) string {
	s := fmt.Sprintf("{%d %q %q", x.Kind, x.Name, x.Type)
	for _, c := range x.Cases {
		s += fmt.Sprintf(" %q%q", c.Name, c.Fields)
	}
	return s + "}"
}

func told(i api.Iface) string {
	s := fmt.Sprintf("%q", i.Module)
	for _, x := range i.Items {
		s += " " + toldItem(x)
	}
	return s
}
