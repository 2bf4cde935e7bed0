package schema_test

import (
	"fmt"
	"math"
	"math/rand"
	"reflect"
	"slices"
	"strings"
	"testing"

	"mortmain/api"
	"mortmain/schema"
	"mortmain/value"
)

// bare is the schema with nil for every empty list, so that schemas can be compared.
func bare(s api.Schema) api.Schema {
	s.Tables = bareList(s.Tables, func(t api.Table) api.Table {
		t.Cols = bareList(t.Cols, func(c api.Column) api.Column { return c })
		t.Checks = bareList(t.Checks, bareExpr)
		return t
	})
	s.Grants = bareList(s.Grants, func(g api.Grant) api.Grant { return g })
	return s
}

func bareExpr(e api.Expr) api.Expr {
	e.Args = bareList(e.Args, bareExpr)
	return e
}

func bareList[T any](list []T, item func(T) T) []T {
	var out []T
	for _, x := range list {
		out = append(out, item(x))
	}
	return out
}

func same(a, b api.Schema) bool { return reflect.DeepEqual(bare(a), bare(b)) }

func wantRead(t *testing.T, name string, s api.Schema) {
	t.Helper()
	if got, err := schema.Read(schema.Bytes(s)); err != api.OK || !same(got, s) {
		t.Errorf("%s: %d, %+v, want %+v", name, err, got, s)
	}
}

func wantNone(t *testing.T, name, b string) {
	t.Helper()
	if got, err := schema.Read(b); err != api.ErrForm || !reflect.DeepEqual(got, api.Schema{}) {
		t.Errorf("%s: %d, %+v", name, err, got)
	}
}

// P9.1: the encoding.

func TestBytes(t *testing.T) {
	s := api.Schema{Version: 64, Tables: []api.Table{
		{Name: "t", Owner: -2, Cols: []api.Column{
			{Name: "ab", Ref: "c", Kind: 3, Del: 2, NotNull: true},
			{Name: "d", Kind: -1, Del: 1, Unique: true},
		}, Checks: []api.Expr{{Op: 9, Col: 4, Val: api.Value{Kind: 3, Num: -3, Text: "e"}, Args: []api.Expr{{Op: 1, Val: value.Int(5)}, {Op: 2, Col: 6}}}}},
		{},
	}, Grants: []api.Grant{{Role: 7, Bits: 31, Table: "f"}, {}}}
	want := "\x80\x01" + "\x04" +
		"\x02t\x03" + "\x04" + "\x04ab\x02c\x06\x04\x02\x00" + "\x02d\x00\x01\x02\x00\x02" +
		"\x02" + "\x12\x08" + "\x06\x05\x02e" + "\x04" + "\x02\x00\x02\x0a\x00\x00" + "\x04\x0c\x00\x00\x00\x00" +
		"\x00\x00\x00\x00" +
		"\x04" + "\x0e\x3e\x02f" + "\x00\x00\x00"
	if got := schema.Bytes(s); got != want {
		t.Errorf("%x, want %x", got, want)
	}
	if got := schema.Bytes(api.Schema{}); got != "\x00\x00\x00" {
		t.Errorf("the zero schema: %x", got)
	}
	if got := schema.Bytes(api.Schema{Version: -1, Tables: []api.Table{}, Grants: []api.Grant{}}); got != "\x01\x00\x00" {
		t.Errorf("empty lists: %x", got)
	}
}

func TestBytesAreThoseOfTheModel(t *testing.T) {
	random := rand.New(rand.NewSource(1))
	for range 2000 {
		s := anySchema(random)
		if got, want := schema.Bytes(s), string(modelBytes(s)); got != want {
			t.Fatalf("%+v: %x, want %x", s, got, want)
		}
	}
}

// P9.1: the bounds of what is read.

// many is that many zero tables, columns, ..
func many[T any](n int) []T { return make([]T, n) }

// oneCheck is a schema with a check.
func oneCheck(e api.Expr) api.Schema {
	return api.Schema{Tables: []api.Table{{Name: "t", Checks: []api.Expr{e}}}}
}

// bushy is an expression of that many levels, with two operands in all but the last.
func bushy(levels int) api.Expr {
	if levels == 1 {
		return api.Expr{}
	}
	return node(api.Plus, bushy(levels-1), bushy(levels-1))
}

func TestBounds(t *testing.T) {
	for _, c := range []struct {
		name  string
		bound int
		make  func(n int) api.Schema
	}{
		{"tables", 12, func(n int) api.Schema { return api.Schema{Tables: many[api.Table](n)} }},
		{"grants", 64, func(n int) api.Schema { return api.Schema{Grants: many[api.Grant](n)} }},
		{"columns", 6, func(n int) api.Schema { return api.Schema{Tables: []api.Table{{}, {Cols: many[api.Column](n)}, {}}} }},
		{"checks", 4, func(n int) api.Schema { return api.Schema{Tables: []api.Table{{Checks: many[api.Expr](n)}}} }},
		{"operands", 2, func(n int) api.Schema { return oneCheck(api.Expr{Op: api.Plus, Args: many[api.Expr](n)}) }},
		{"operands of operands", 2, func(n int) api.Schema { return oneCheck(node(api.Not, api.Expr{Args: many[api.Expr](n)})) }},
		{"bytes of a text", 24, func(n int) api.Schema { return oneCheck(lit(value.Text(strings.Repeat("a", n)))) }},
		{"levels within the first one", 8, func(n int) api.Schema { return oneCheck(chain(n+1, api.Expr{})) }},
		{"levels within the first one, of pairs", 8, func(n int) api.Schema { return oneCheck(bushy(n + 1)) }},
	} {
		for _, n := range []int{0, 1, c.bound - 1, c.bound} {
			wantRead(t, fmt.Sprint(n, " ", c.name), c.make(n))
		}
		for n := c.bound + 1; n <= c.bound+3; n++ {
			wantNone(t, fmt.Sprint(n, " ", c.name), schema.Bytes(c.make(n)))
		}
	}
	deepInTheSecond := node(api.And, lit(value.Int(1)), chain(9, lit(value.Int(1))))
	wantNone(t, "levels of the second operand", schema.Bytes(oneCheck(deepInTheSecond)))
}

func TestAllBoundsAtOnce(t *testing.T) {
	s := api.Schema{Version: math.MaxInt, Grants: many[api.Grant](64)}
	for range 12 {
		s.Tables = append(s.Tables, api.Table{Cols: many[api.Column](6), Checks: slices.Repeat([]api.Expr{bushy(9)}, 4)})
	}
	wantRead(t, "the greatest one", s)
}

// What is read need not be valid.
func TestInvalidTablesAreRead(t *testing.T) {
	wantRead(t, "odd fields", api.Schema{Version: math.MinInt, Tables: []api.Table{
		{Name: strings.Repeat("N", 300), Owner: math.MaxInt, Cols: []api.Column{{Name: "\x00\xff", Ref: "nowhere", Kind: -7, Del: 99, Unique: true}}},
		{Checks: []api.Expr{{Op: math.MinInt, Col: -1, Val: value.Text("a"), Args: []api.Expr{{Op: 77}}}}},
		{}, {},
	}, Grants: []api.Grant{{Role: -1, Bits: math.MaxInt, Table: " "}, {}, {}}})
}

func TestInvalidValuesAreNotRead(t *testing.T) {
	for _, v := range []api.Value{
		{Num: 1}, {Text: "a"}, {Kind: api.Int, Text: "a"}, {Kind: api.Float, Num: math.MinInt}, {Kind: api.Float, Num: -1},
		{Kind: api.Float, Text: "a"}, {Kind: api.Text, Num: 1}, {Kind: 4}, {Kind: -1}, {Kind: math.MaxInt},
	} {
		for _, op := range []int{api.Lit, api.Col, 0} {
			wantNone(t, fmt.Sprintf("%+v", v), schema.Bytes(oneCheck(api.Expr{Op: op, Val: v})))
			wantNone(t, fmt.Sprintf("%+v within", v), schema.Bytes(oneCheck(node(api.Not, api.Expr{Op: op, Val: v}))))
		}
	}
}

func TestBytesThatAreNone(t *testing.T) {
	whole := schema.Bytes(full())
	for size := range len(whole) {
		wantNone(t, "too short", whole[:size])
	}
	for b := range 256 {
		wantNone(t, "more behind it", whole+string([]byte{byte(b)}))
	}
	wantNone(t, "twice", whole+whole)
	wantNone(t, "a version that isn't in its shortest form", "\x80\x00\x00\x00")
	wantNone(t, "a number of more than 64 bits", strings.Repeat("\xff", 9)+"\x02\x00\x00")
	wantNone(t, "fewer tables than none", "\x00\x01\x00")
	wantNone(t, "fewer grants than none", "\x00\x00\x01")
	wantNone(t, "more tables than bytes", "\x00\x18\x00")
	wantNone(t, "a boolean that is 2", "\x00\x02"+"\x00\x00\x02"+"\x00\x00\x00\x00\x04\x00"+"\x00"+"\x00")
	wantNone(t, "a boolean that is -1", "\x00\x02"+"\x00\x00\x02"+"\x00\x00\x00\x00\x00\x01"+"\x00"+"\x00")
	wantNone(t, "a long string", "\x00\x02"+"\x7eab"+"\x00\x00\x00\x00")
	if _, err := schema.Read("\x00\x02" + "\x00\x00\x02" + "\x00\x00\x00\x00\x02\x02" + "\x00" + "\x00"); err != api.OK {
		t.Errorf("two booleans that are 1: %d", err)
	}
}

// P9.1: of all bytes, exactly those of a schema within the bounds are read.
func TestReadAgreesWithTheModel(t *testing.T) {
	random := rand.New(rand.NewSource(2))
	read := 0
	for range 15000 {
		b := []byte(schema.Bytes(anySchema(random)))
		for range random.Intn(3) {
			b = changed(random, b)
		}
		want, ok := modelRead(b)
		got, err := schema.Read(string(b))
		if !ok {
			if err != api.ErrForm || !reflect.DeepEqual(got, api.Schema{}) {
				t.Fatalf("%x: %d, %+v", b, err, got)
			}
			continue
		}
		read++
		if err != api.OK || !same(got, want) || schema.Bytes(got) != string(b) {
			t.Fatalf("%x: %d, %+v, want %+v", b, err, got, want)
		}
	}
	if read < 2500 || read > 12500 {
		t.Errorf("%d were schemas", read)
	}
}

func TestReadOfAllShortBytes(t *testing.T) {
	for n := range 1 << 16 {
		for _, b := range [][]byte{{byte(n)}, {byte(n), byte(n >> 8)}, {byte(n), byte(n >> 8), 0}, {0, byte(n), byte(n >> 8)}, {0, 2, 0, 0, byte(n), byte(n >> 8), 0}} {
			want, ok := modelRead(b)
			got, err := schema.Read(string(b))
			if ok != (err == api.OK) || !same(got, want) {
				t.Fatalf("%x: %d, %+v", b, err, got)
			}
		}
	}
}

// P9.2: a schema is decoded from its encoding, and no other one has it.

func TestRoundTrip(t *testing.T) {
	wantRead(t, "nothing", api.Schema{})
	wantRead(t, "all", full())
	random := rand.New(rand.NewSource(3))
	for range 5000 {
		wantRead(t, "a random one", anySchema(random))
	}
}

// variants are schemas that differ from full by one thing each.
func variants() []api.Schema {
	var list []api.Schema
	vary := func(change func(s *api.Schema)) {
		s := full()
		change(&s)
		list = append(list, s)
	}
	table := func(change func(t *api.Table)) { vary(func(s *api.Schema) { change(&s.Tables[3]) }) }
	column := func(change func(c *api.Column)) { table(func(t *api.Table) { change(&t.Cols[3]) }) }
	check := func(change func(e *api.Expr)) { table(func(t *api.Table) { change(&t.Checks[0]) }) }
	grant := func(change func(g *api.Grant)) { vary(func(s *api.Schema) { change(&s.Grants[1]) }) }
	vary(func(s *api.Schema) {})
	vary(func(s *api.Schema) { s.Version++ })
	vary(func(s *api.Schema) { s.Tables = s.Tables[:3] })
	vary(func(s *api.Schema) { s.Tables = append(s.Tables, api.Table{}) })
	vary(func(s *api.Schema) { slices.Reverse(s.Tables) })
	vary(func(s *api.Schema) { s.Grants = s.Grants[:1] })
	vary(func(s *api.Schema) { slices.Reverse(s.Grants) })
	grant(func(g *api.Grant) { g.Role++ })
	grant(func(g *api.Grant) { g.Bits-- })
	grant(func(g *api.Grant) { g.Role, g.Bits = g.Bits, g.Role })
	grant(func(g *api.Grant) { g.Table = "place" })
	table(func(t *api.Table) { t.Name += "_" })
	table(func(t *api.Table) { t.Owner = -t.Owner })
	table(func(t *api.Table) { t.Cols = t.Cols[:4] })
	table(func(t *api.Table) { t.Cols = append(t.Cols, api.Column{}) })
	table(func(t *api.Table) { t.Checks = t.Checks[:1] })
	table(func(t *api.Table) { t.Checks = append(t.Checks, api.Expr{}) })
	table(func(t *api.Table) { slices.Reverse(t.Checks) })
	column(func(c *api.Column) { c.Name, c.Ref = c.Ref, c.Name })
	column(func(c *api.Column) { c.Name, c.Ref = "atplaces", "" })
	column(func(c *api.Column) { c.Name += "\x00" })
	column(func(c *api.Column) { c.Ref = "" })
	column(func(c *api.Column) { c.Kind++ })
	column(func(c *api.Column) { c.Del = 1 })
	column(func(c *api.Column) { c.Del = 2 })
	column(func(c *api.Column) { c.Kind, c.Del = c.Del, c.Kind })
	column(func(c *api.Column) { c.NotNull = true })
	column(func(c *api.Column) { c.Unique = true })
	check(func(e *api.Expr) { e.Op++ })
	check(func(e *api.Expr) { e.Col = 1 })
	check(func(e *api.Expr) { e.Val = value.Int(1) })
	check(func(e *api.Expr) { e.Args = e.Args[:1] })
	check(func(e *api.Expr) { slices.Reverse(e.Args) })
	check(func(e *api.Expr) { e.Args[0].Col++ })
	check(func(e *api.Expr) { e.Args[1].Val = value.Float(9) })
	check(func(e *api.Expr) { e.Args[1].Val = value.Int(10) })
	check(func(e *api.Expr) { e.Args[1].Val = value.Text("9") })
	check(func(e *api.Expr) { e.Args[1].Args = []api.Expr{{}} })
	check(func(e *api.Expr) { e.Args[0], e.Args[1].Args = e.Args[1], []api.Expr{e.Args[0]} })
	return list
}

func TestDifferentSchemasHaveDifferentBytes(t *testing.T) {
	random := rand.New(rand.NewSource(4))
	list := variants()
	seen := map[string]api.Schema{}
	for i, s := range list {
		wantRead(t, fmt.Sprint("variant ", i), s)
		seen[schema.Bytes(s)] = s
	}
	if len(seen) != len(list) {
		t.Errorf("%d of %d variants differ", len(seen), len(list))
	}
	for range 5000 {
		s := tinySchema(random)
		b := schema.Bytes(s)
		if other, ok := seen[b]; ok && !same(s, other) {
			t.Errorf("%+v and %+v: %x", s, other, b)
		}
		seen[b] = s
	}
}

// Beyond the bounds, too, different schemas have different encodings.
func TestGreatSchemasHaveDifferentBytes(t *testing.T) {
	seen := map[string]bool{}
	for tables := range 20 {
		for cols := range 9 {
			s := api.Schema{}
			for range tables {
				s.Tables = append(s.Tables, api.Table{Cols: many[api.Column](cols)})
			}
			seen[schema.Bytes(s)] = true
		}
	}
	if len(seen) != 19*9+1 {
		t.Errorf("%d encodings", len(seen))
	}
}
