package lower

import (
	"slices"
	"strconv"
	"strings"

	"hawser/api"
	"hawser/object"
	"hawser/types"
)

// bringIn makes a symbol of each name that is imported, whether code names it or not.
func (w *writing) bringIn(imports []api.Import) {
	for _, one := range imports {
		name := one.From + "." + one.Name
		if _, ok := w.names.Cases(name); ok {
			w.symbolOfType(name)
		} else {
			w.symbolOfValue(name)
		}
	}
}

// symbolOfType is the number of the symbol of a named type, m.T.
func (w *writing) symbolOfType(t string) int {
	module, name, _ := types.Named(t)
	cases, _ := w.names.Cases(t)
	return w.symbol(module, api.Item{Kind: api.Type, Name: name, Cases: cases})
}

// symbolOfValue is that of a const or a function: x of the module's own, or n.x.
func (w *writing) symbolOfValue(name string) int {
	item, _ := w.names.Value(name)
	module, _, imported := strings.Cut(name, ".")
	if !imported {
		module = w.module
	}
	return w.symbol(module, item)
}

// symbol looks for no Kind, since types and values begin with other letters.
func (w *writing) symbol(module string, item api.Item) int {
	n := slices.IndexFunc(w.symbols, func(s object.Symbol) bool { return s.Module == module && s.Item.Name == item.Name })
	if n >= 0 {
		return n
	}
	return w.newSymbol(module, item)
}

func (w *writing) newSymbol(module string, item api.Item) int {
	if len(w.symbols) == api.MaxSymbols {
		w.refuse(api.ErrMany)
		return 0
	}
	w.symbols = append(w.symbols, object.Symbol{Module: module, Item: item})
	return len(w.symbols) - 1
}

// symbolOfLambda leaves a Lambda to be written later; the functions with a name stand ahead of all Lambdas. It is named at the place where it stands and nowhere else, so that its symbol is a new one.
func (w *writing) symbolOfLambda(f function) int {
	if w.defined+len(w.lambdas) == api.MaxFuns {
		w.refuse(api.ErrMany)
		return 0
	}
	number := w.named + len(w.lambdas)
	w.lambdas = append(w.lambdas, f)
	return w.newSymbol(w.module, api.Item{Kind: api.Fun, Type: strconv.Itoa(number)})
}

// text is the number of a type among the texts.
func (w *writing) text(t string) int {
	if n := slices.Index(w.texts, t); n >= 0 {
		return n
	}
	if len(w.texts) == api.MaxItems {
		w.refuse(api.ErrMany)
		return 0
	}
	w.texts = append(w.texts, t)
	return len(w.texts) - 1
}
