package sema

import (
	"slices"

	"hawser/api"
)

// local is a name that is bound, with its type, and the number of the local that it hides.
type local struct {
	name, of string
	hides    int
}

func (c *checker) bind(name, of string) {
	c.locals = append(c.locals, local{name, of, c.last[name]})
	c.last[name] = len(c.locals)
}

func (c *checker) bindAll(params []api.Param) {
	for _, param := range params {
		c.bind(param.Name, param.Type)
	}
}

// unbind forgets all locals but the first ones, from the last on, so that those that they hid are seen again.
func (c *checker) unbind(from int) {
	for _, gone := range slices.Backward(c.locals[from:]) {
		c.last[gone.name] = gone.hides
	}
	c.locals = c.locals[:from]
}
