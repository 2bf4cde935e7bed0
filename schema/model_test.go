package schema_test

import (
	"encoding/binary"
	"math"
	"math/rand"
	"slices"

	"mortmain/api"
	"mortmain/value"
)

// A second encoding of schemas, and schemas to try it with.

func modelBytes(s api.Schema) []byte {
	b := num(nil, s.Version, len(s.Tables))
	for _, t := range s.Tables {
		b = num(text(b, t.Name), t.Owner, len(t.Cols))
		for _, c := range t.Cols {
			b = num(text(text(b, c.Name), c.Ref), c.Kind, c.Del, bit(c.NotNull), bit(c.Unique))
		}
		b = modelExprs(b, t.Checks)
	}
	b = num(b, len(s.Grants))
	for _, g := range s.Grants {
		b = text(num(b, g.Role, g.Bits), g.Table)
	}
	return b
}

func modelExprs(b []byte, list []api.Expr) []byte {
	b = num(b, len(list))
	for _, e := range list {
		b = text(num(b, e.Op, e.Col, e.Val.Kind, e.Val.Num), e.Val.Text)
		b = modelExprs(b, e.Args)
	}
	return b
}

func num(b []byte, list ...int) []byte {
	for _, n := range list {
		b = binary.AppendVarint(b, int64(n))
	}
	return b
}

func text(b []byte, s string) []byte { return append(num(b, len(s)), s...) }

func bit(yes bool) int {
	if yes {
		return 1
	}
	return 0
}

// scan takes a schema from bytes; bad: they are none.
type scan struct {
	b   []byte
	bad bool
}

// modelRead is the schema within the bounds whose encoding is b, if there is one.
func modelRead(b []byte) (api.Schema, bool) {
	c := &scan{b: b}
	s := api.Schema{Version: c.num()}
	for range c.count(12) {
		s.Tables = append(s.Tables, c.table())
	}
	for range c.count(64) {
		g := api.Grant{}
		g.Role = c.num()
		g.Bits = c.num()
		g.Table = c.text()
		s.Grants = append(s.Grants, g)
	}
	if c.bad || len(c.b) > 0 {
		return api.Schema{}, false
	}
	return s, true
}

func (c *scan) num() int {
	n, size := binary.Varint(c.b)
	if c.bad || size <= 0 || size != len(binary.AppendVarint(nil, n)) {
		c.bad = true
		return 0
	}
	c.b = c.b[size:]
	return int(n)
}

func (c *scan) count(bound int) int {
	n := c.num()
	if n < 0 || n > bound {
		c.bad = true
	}
	if c.bad {
		return 0
	}
	return n
}

func (c *scan) text() string {
	n := c.count(len(c.b))
	if n > len(c.b) {
		c.bad = true
		return ""
	}
	s := string(c.b[:n])
	c.b = c.b[n:]
	return s
}

func (c *scan) flag() bool {
	n := c.num()
	c.bad = c.bad || n < 0 || n > 1
	return n == 1
}

func (c *scan) table() api.Table {
	t := api.Table{Name: c.text()}
	t.Owner = c.num()
	for range c.count(6) {
		x := api.Column{Name: c.text()}
		x.Ref = c.text()
		x.Kind = c.num()
		x.Del = c.num()
		x.NotNull = c.flag()
		x.Unique = c.flag()
		t.Cols = append(t.Cols, x)
	}
	t.Checks = c.exprs(4, 0)
	return t
}

// exprs takes expressions that so many others are around.
func (c *scan) exprs(bound, around int) []api.Expr {
	var list []api.Expr
	for range c.count(bound) {
		c.bad = c.bad || around > 8
		e := api.Expr{Op: c.num()}
		e.Col = c.num()
		e.Val.Kind = c.num()
		e.Val.Num = c.num()
		e.Val.Text = c.text()
		c.bad = c.bad || !valid(e.Val)
		e.Args = c.exprs(2, around+1)
		list = append(list, e)
	}
	return list
}

func valid(v api.Value) bool {
	switch v.Kind {
	case api.Int:
		return v == value.Int(v.Num)
	case api.Float:
		return v == value.Float(math.Float64frombits(uint64(v.Num)))
	case api.Text:
		return v == value.Text(v.Text) && len(v.Text) <= 24
	}
	return v == api.Value{}
}

func pick[T any](r *rand.Rand, list ...T) T { return list[r.Intn(len(list))] }

func anyNumber(r *rand.Rand) int {
	return pick(r, r.Intn(10), -1, r.Intn(300)-150, math.MaxInt, math.MinInt, int(r.Uint64()))
}

func anyName(r *rand.Rand) string {
	return pick(r, "", "a", "b", "users", "posts", "No name", "abcdefghijkl", "\x00\xff", "é")
}

func anyValue(r *rand.Rand) api.Value {
	return pick(r, api.Value{}, value.Int(anyNumber(r)), value.Float(r.NormFloat64()), value.Float(math.NaN()), value.Text(anyName(r)))
}

func anyExpr(r *rand.Rand, levels int) api.Expr {
	e := api.Expr{Op: pick(r, 1+r.Intn(10), anyNumber(r)), Col: pick(r, r.Intn(6), anyNumber(r)), Val: anyValue(r)}
	if levels > 1 {
		for range r.Intn(3) {
			e.Args = append(e.Args, anyExpr(r, levels-1))
		}
	}
	return e
}

// anySchema is one within the bounds, seldom a valid one.
func anySchema(r *rand.Rand) api.Schema {
	s := api.Schema{Version: anyNumber(r)}
	for range pick(r, 0, 1, 2, 3, 12) {
		t := api.Table{Name: anyName(r), Owner: anyNumber(r)}
		for range r.Intn(7) {
			t.Cols = append(t.Cols, api.Column{Name: anyName(r), Ref: anyName(r), Kind: anyNumber(r), Del: anyNumber(r), NotNull: r.Intn(2) == 0, Unique: r.Intn(2) == 0})
		}
		for range pick(r, 0, 0, 0, 1, 2, 4) {
			t.Checks = append(t.Checks, anyExpr(r, 1+r.Intn(9)))
		}
		s.Tables = append(s.Tables, t)
	}
	for range pick(r, 0, 1, 2, 64) {
		s.Grants = append(s.Grants, api.Grant{Role: anyNumber(r), Table: anyName(r), Bits: anyNumber(r)})
	}
	return s
}

// tinySchema is one of few, so that there are many pairs that are nearly the same.
func tinySchema(r *rand.Rand) api.Schema {
	s := api.Schema{Version: r.Intn(2)}
	for range r.Intn(3) {
		t := api.Table{Name: pick(r, "", "\x00", "\x02a"), Owner: r.Intn(2)}
		for range r.Intn(3) {
			t.Cols = append(t.Cols, api.Column{Name: pick(r, "", "\x00"), Ref: pick(r, "", "\x00"), Kind: r.Intn(2), Del: r.Intn(2), NotNull: r.Intn(2) == 0, Unique: r.Intn(2) == 0})
		}
		for range r.Intn(2) {
			t.Checks = append(t.Checks, anyExpr(r, 2))
		}
		s.Tables = append(s.Tables, t)
	}
	for range r.Intn(2) {
		s.Grants = append(s.Grants, api.Grant{Role: r.Intn(2), Table: pick(r, "", "\x00"), Bits: r.Intn(2)})
	}
	return s
}

// changed is b with one byte changed, removed, added, or with an end cut off.
func changed(r *rand.Rand, b []byte) []byte {
	b = slices.Clone(b)
	at := r.Intn(len(b) + 1)
	fresh := pick(r, byte(r.Intn(256)), byte(r.Intn(8)), 0x80)
	switch {
	case at == len(b) || r.Intn(5) == 0:
		return slices.Insert(b, at, fresh)
	case r.Intn(5) == 0:
		return slices.Delete(b, at, at+1)
	case r.Intn(20) == 0:
		return b[:at]
	}
	b[at] = fresh
	return b
}
