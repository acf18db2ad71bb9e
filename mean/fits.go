package mean

import (
	"hawser/api"
	"hawser/num"
	"hawser/types"
)

// Fits: see the chapter. Of two interfaces that have one type the first counts.
func Fits(l []api.Iface, t string, v api.Value) bool {
	f := fitter{cases: casesByType(l)}
	return f.fits(t, &v)
}

// fitter counts the values that it looks at: those that stand in themselves, which have no end, are too many.
type fitter struct {
	cases map[string][]api.Case // by m.T
	count int
}

func casesByType(l []api.Iface) map[string][]api.Case {
	cases := make(map[string][]api.Case)
	for _, i := range l {
		for _, item := range i.Items {
			name := i.Module + "." + item.Name
			if _, ok := cases[name]; !ok {
				cases[name] = item.Cases
			}
		}
	}
	return cases
}

func (f *fitter) fits(t string, v *api.Value) bool {
	f.count++
	if f.count > api.MaxShown || hasMore(v) {
		return false
	}
	switch v.Kind {
	case api.Num:
		return t == "num" && num.Right(v.N)
	case api.Bytes:
		return t == "bytes" && len(v.B) <= api.MaxLength
	case api.Array:
		return f.fitsArray(t, v)
	case api.Variant:
		return f.fitsVariant(t, v)
	}
	return false
}

// hasMore tells whether there is something in what a value's Kind doesn't name.
func hasMore(v *api.Value) bool {
	isVariant := v.Kind == api.Variant
	return v.Kind != api.Num && v.N != 0 ||
		v.Kind != api.Bytes && len(v.B) > 0 ||
		!isVariant && v.Case != 0 ||
		!isVariant && v.Kind != api.Array && len(v.Kids) > 0
}

func (f *fitter) fitsArray(t string, v *api.Value) bool {
	elem, ok := types.Elem(t)
	if !ok || len(v.Kids) > api.MaxLength {
		return false
	}
	for k := range v.Kids {
		if !f.fits(elem, &v.Kids[k]) {
			return false
		}
	}
	return true
}

func (f *fitter) fitsVariant(t string, v *api.Value) bool {
	cases := f.cases[t]
	if v.Case < 0 || v.Case >= len(cases) || len(v.Kids) != len(cases[v.Case].Fields) {
		return false
	}
	for k, field := range cases[v.Case].Fields {
		if !f.fits(field, &v.Kids[k]) {
			return false
		}
	}
	return true
}
