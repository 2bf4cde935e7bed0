package cell

import (
	"mortmain/api"
	"mortmain/value"
)

// cutter takes the components off a key, and remembers whether one was missing.
type cutter struct {
	rest   string
	failed bool
}

func (c *cutter) place(kind byte) Place {
	switch kind {
	case Row:
		return Place{Kind: kind, Table: c.name(), Key: c.value()}
	case Uniq:
		return Place{Kind: kind, Table: c.name(), Col: c.name(), Key: c.value()}
	case Ref:
		return Place{Kind: kind, Table: c.name(), Key: c.value(), From: c.name(), Col: c.name(), By: c.value()}
	case Whole:
		return Place{Kind: kind, Table: c.name()}
	}
	c.failed = true
	return Place{}
}

func (c *cutter) value() api.Value {
	v, rest, err := value.Cut(c.rest)
	c.rest = rest
	c.failed = c.failed || err != api.OK
	return v
}

func (c *cutter) name() string {
	v := c.value()
	c.failed = c.failed || v.Kind != api.Text
	return v.Text
}
