package schema_test

import (
	"fmt"
	"math"
	"reflect"
	"slices"
	"strings"
	"testing"

	"mortmain/api"
	"mortmain/schema"
	"mortmain/value"
)

func lit(v api.Value) api.Expr { return api.Expr{Op: api.Lit, Val: v} }

func col(i int) api.Expr { return api.Expr{Op: api.Col, Col: i} }

func node(op int, args ...api.Expr) api.Expr { return api.Expr{Op: op, Args: args} }

// chain is an expression of that many levels, with a leaf at the end.
func chain(levels int, leaf api.Expr) api.Expr {
	for range levels - 1 {
		leaf = node(api.Not, leaf)
	}
	return leaf
}

// users is a table with all that a key may have.
func users() api.Table {
	return api.Table{Name: "users", Cols: []api.Column{
		{Name: "id", Kind: api.Int, NotNull: true},
		{Name: "mail", Kind: api.Text, Unique: true},
	}}
}

// posts refers to users, to places, and to itself, and has checks.
func posts() api.Table {
	return api.Table{Name: "posts", Owner: 3, Cols: []api.Column{
		{Name: "id", Kind: api.Text, NotNull: true},
		{Name: "by", Kind: api.Int, NotNull: true, Ref: "users", Del: api.Cascade},
		{Name: "up", Kind: api.Text, Ref: "posts", Del: api.SetNull},
		{Name: "at", Kind: api.Float, Ref: "places"},
		{Name: "n", Kind: api.Int},
	}, Checks: []api.Expr{
		node(api.Less, col(4), lit(value.Int(9))),
		node(api.Or, node(api.IsNull, col(2)), node(api.Equal, col(4), lit(value.Int(5)))),
	}}
}

// base is a schema that posts is valid for.
func base() api.Schema {
	return api.Schema{Version: 3, Tables: []api.Table{
		users(),
		{Name: "places", Owner: 7, Cols: []api.Column{{Name: "at", Kind: api.Float, NotNull: true}}},
		{Name: "empty"},
	}, Grants: []api.Grant{{Role: 2, Table: "users", Bits: 5}, {Role: 4, Table: "places", Bits: 31}}}
}

// full is base with posts.
func full() api.Schema {
	s := base()
	s.Tables = append(s.Tables, posts())
	return s
}

// P9.1: names, and what is found by them.

func TestName(t *testing.T) {
	for _, s := range []string{"a", "z", "a0", "a9", "a_", "a_b", "az09_za", "m__9", "abcdefghijkl", "z99999999999", "a___________"} {
		if !schema.Name(s) {
			t.Errorf("%q is a name", s)
		}
	}
	for _, s := range []string{
		"", "_", "_a", "0", "9a", "A", "Ab", "aB", "abC", "a-b", "a b", " a", "a ", "a.", "a\x00", "\x00", "a\n", "\xff", "a\xff",
		"é", "aé", "aß", "a１", "ａ", "abcdefghijklm", "a0123456789_x", strings.Repeat("a", 1000),
		"a`", "a{", "a/", "a:", "a^", "`", "{", "/", ":", "^",
	} {
		if schema.Name(s) {
			t.Errorf("%q is no name", s)
		}
	}
}

func TestNameOfAllBytes(t *testing.T) {
	const first, later = "abcdefghijklmnopqrstuvwxyz", "abcdefghijklmnopqrstuvwxyz0123456789_"
	for n := range 256 {
		b := string([]byte{byte(n)})
		if got, want := schema.Name(b), strings.Contains(first, b); got != want {
			t.Errorf("%q: %v", b, got)
		}
		for _, s := range []string{"a" + b, "a" + b + "b", "abcdefghijk" + b} {
			if got, want := schema.Name(s), strings.Contains(later, b); got != want {
				t.Errorf("%q: %v", s, got)
			}
		}
	}
}

func TestFind(t *testing.T) {
	s := full()
	for i, want := range s.Tables {
		got, ok := schema.Find(s, want.Name)
		if !ok || !reflect.DeepEqual(got, s.Tables[i]) {
			t.Errorf("%s: %+v, %v", want.Name, got, ok)
		}
	}
	for _, name := range []string{"", "user", "userss", "Users", "id", "users\x00"} {
		if got, ok := schema.Find(s, name); ok || !reflect.DeepEqual(got, api.Table{}) {
			t.Errorf("%q: %+v, %v", name, got, ok)
		}
	}
	if _, ok := schema.Find(api.Schema{}, "users"); ok {
		t.Error("a table of no tables")
	}
}

func TestFindReturnsTheFirstOne(t *testing.T) {
	s := api.Schema{Tables: []api.Table{{Name: "a"}, {Name: "b", Owner: 1}, {Name: "b", Owner: 2}, {Owner: 3}, {Owner: 4}}}
	if got, ok := schema.Find(s, "b"); !ok || got.Owner != 1 {
		t.Errorf("%+v, %v", got, ok)
	}
	if got, ok := schema.Find(s, ""); !ok || got.Owner != 3 {
		t.Errorf("%+v, %v", got, ok)
	}
}

func TestPlace(t *testing.T) {
	p := posts()
	for i, c := range p.Cols {
		if got := schema.Place(p, c.Name); got != i {
			t.Errorf("%s: %d, want %d", c.Name, got, i)
		}
	}
	for _, name := range []string{"", "i", "idd", "ID", "posts", "users"} {
		if got := schema.Place(p, name); got != -1 {
			t.Errorf("%q: %d", name, got)
		}
	}
	twice := api.Table{Cols: []api.Column{{Name: "a"}, {Name: "b"}, {Name: "b"}, {}, {}}}
	if schema.Place(twice, "b") != 1 || schema.Place(twice, "") != 3 {
		t.Error("not the first column")
	}
	if got := schema.Place(api.Table{}, "id"); got != -1 {
		t.Errorf("no columns: %d", got)
	}
}

func TestLinks(t *testing.T) {
	s := api.Schema{Tables: []api.Table{
		users(),
		{Name: "a", Cols: []api.Column{{Name: "k"}, {Name: "x", Ref: "users"}, {Name: "y", Ref: "a"}, {Name: "z", Ref: "users", Del: api.Cascade}}},
		{Name: "b", Cols: []api.Column{{Name: "k", Ref: "users"}, {Name: "x", Ref: "gone"}}},
		{Name: "a", Cols: []api.Column{{Name: "k"}, {Name: "x", Ref: "users", Del: api.SetNull}}},
		{Name: "c"},
	}, Grants: []api.Grant{{Role: 1, Table: "users", Bits: 16}}}
	for name, want := range map[string][]schema.Link{
		"users": {{Table: "a", Col: 1}, {Table: "a", Col: 3}, {Table: "b", Col: 0}, {Table: "a", Col: 1}},
		"a":     {{Table: "a", Col: 2}},
		"gone":  {{Table: "b", Col: 1}},
		"b":     nil,
		"":      nil,
		"user":  nil,
		"Users": nil,
		"k":     nil,
	} {
		if got := schema.Links(s, name); !slices.Equal(got, want) {
			t.Errorf("%q: %v, want %v", name, got, want)
		}
	}
	if got := schema.Links(api.Schema{}, "users"); len(got) != 0 {
		t.Errorf("no tables: %v", got)
	}
}

// P9.1: validity of tables.

func checkGood(t *testing.T, name string, table api.Table, s api.Schema, want api.Errno) {
	t.Helper()
	if got := schema.Good(table, s); got != want {
		t.Errorf("%s: %d, want %d", name, got, want)
	}
}

func TestGoodTables(t *testing.T) {
	key := api.Column{Name: "id", Kind: api.Int, NotNull: true}
	six := []api.Column{key, {Name: "b", Kind: 1}, {Name: "c", Kind: 2}, {Name: "d", Kind: 3}, {Name: "e", Kind: 1}, {Name: "f", Kind: 1}}
	known := lit(value.Int(1))
	checkGood(t, "posts", posts(), base(), api.OK)
	checkGood(t, "a table that is there", users(), base(), api.OK)
	for _, kind := range []int{api.Int, api.Float, api.Text} {
		checkGood(t, "a key", api.Table{Name: "a", Cols: []api.Column{{Name: "a", Kind: kind, NotNull: true}}}, api.Schema{}, api.OK)
	}
	for owner := range api.MaxRoles {
		checkGood(t, "an owner", api.Table{Name: "abcdefghijkl", Owner: owner, Cols: []api.Column{key}}, api.Schema{}, api.OK)
	}
	checkGood(t, "six columns and four checks", api.Table{Name: "a", Cols: six, Checks: []api.Expr{known, known, known, known}}, api.Schema{}, api.OK)
	for _, check := range []api.Expr{
		lit(api.Value{}), lit(value.Int(0)), col(0), node(api.IsNull, col(3)), node(api.Plus, lit(api.Value{}), lit(api.Value{})),
		node(api.Less, col(2), lit(value.Float(math.NaN()))), chain(api.MaxDeep, col(0)),
	} {
		checkGood(t, fmt.Sprintf("the check %+v", check), api.Table{Name: "a", Cols: six, Checks: []api.Expr{check}}, api.Schema{}, api.OK)
	}
	for i, c := range []api.Column{
		{Name: "x", Kind: api.Int},
		{Name: "x", Kind: api.Float, NotNull: true, Unique: true},
		{Name: "x", Kind: api.Int, Ref: "users"},
		{Name: "x", Kind: api.Int, Ref: "users", NotNull: true, Unique: true},
		{Name: "x", Kind: api.Int, Ref: "users", Del: api.Cascade},
		{Name: "x", Kind: api.Int, Ref: "users", Del: api.Cascade, NotNull: true},
		{Name: "x", Kind: api.Int, Ref: "users", Del: api.SetNull, Unique: true},
		{Name: "x", Kind: api.Int, Ref: "mine", Del: api.SetNull},
		{Name: "x", Kind: api.Int, Ref: "mine", NotNull: true},
		{Name: "users", Kind: api.Float, Ref: "places"},
	} {
		checkGood(t, fmt.Sprint("column ", i), api.Table{Name: "mine", Cols: []api.Column{key, c}}, base(), api.OK)
	}
}

// fault spoils a table, and has an error. Faults of one step have the same.
type fault struct {
	name string
	step int
	err  api.Errno
	make func(t *api.Table)
}

// faults are in the order of the checks; those of a step exclude each other.
func faults() []fault {
	none := api.Value{}
	return []fault{
		{"no name", 0, api.ErrForm, func(t *api.Table) { t.Name = "" }},
		{"no good name", 0, api.ErrForm, func(t *api.Table) { t.Name = "Posts" }},
		{"a long name", 0, api.ErrForm, func(t *api.Table) { t.Name = "abcdefghijklm" }},
		{"an owner below", 1, api.ErrForm, func(t *api.Table) { t.Owner = -1 }},
		{"an owner above", 1, api.ErrForm, func(t *api.Table) { t.Owner = api.MaxRoles }},
		{"too many columns", 2, api.ErrLong, func(t *api.Table) {
			t.Cols = append(t.Cols, api.Column{Name: "x", Kind: 1}, api.Column{Name: "y", Kind: 1})
		}},
		{"too many checks", 3, api.ErrLong, func(t *api.Table) { t.Checks = append(t.Checks, col(4), col(4), col(4)) }},
		{"a key without a name", 4, api.ErrForm, func(t *api.Table) { t.Cols[0].Name = "" }},
		{"a null key", 5, api.ErrForm, func(t *api.Table) { t.Cols[0].NotNull = false }},
		{"a unique key", 6, api.ErrForm, func(t *api.Table) { t.Cols[0].Unique = true }},
		{"a key that refers", 7, api.ErrForm, func(t *api.Table) { t.Cols[0].Ref = "posts" }},
		{"a key that refers elsewhere", 7, api.ErrForm, func(t *api.Table) { t.Cols[0].Ref = "gone" }},
		{"a key of another kind", 8, api.ErrForm, func(t *api.Table) { t.Cols[0].Kind = 4 }},
		{"a null kind", 8, api.ErrForm, func(t *api.Table) { t.Cols[0].Kind = api.Null }},
		{"a key that cascades", 9, api.ErrForm, func(t *api.Table) { t.Cols[0].Del = api.Cascade }},
		{"a repeated name", 10, api.ErrForm, func(t *api.Table) { t.Cols[1].Name = "id" }},
		{"no name of a column", 10, api.ErrForm, func(t *api.Table) { t.Cols[1].Name = "by " }},
		{"a kind below", 11, api.ErrForm, func(t *api.Table) { t.Cols[1].Kind = -1 }},
		{"a kind above", 11, api.ErrForm, func(t *api.Table) { t.Cols[1].Kind = math.MaxInt }},
		{"a Del above", 12, api.ErrForm, func(t *api.Table) { t.Cols[1].Del = 3 }},
		{"a Del below", 12, api.ErrForm, func(t *api.Table) { t.Cols[1].Del = -1 }},
		{"not null, set to null", 12, api.ErrForm, func(t *api.Table) { t.Cols[1].Del = api.SetNull }},
		{"a reference to nothing", 13, api.ErrTable, func(t *api.Table) { t.Cols[1].Ref = "gone" }},
		{"a reference to a grant", 13, api.ErrTable, func(t *api.Table) { t.Cols[1].Ref = "granted" }},
		{"a reference to no columns", 13, api.ErrTable, func(t *api.Table) { t.Cols[1].Ref = "empty" }},
		{"a reference to another kind", 13, api.ErrType, func(t *api.Table) { t.Cols[1].Ref = "places" }},
		{"a reference to the own other kind", 13, api.ErrType, func(t *api.Table) { t.Cols[1].Ref = "posts" }},
		{"a Del without a reference", 14, api.ErrForm, func(t *api.Table) { t.Cols[2].Ref = "" }},
		{"SetNull of not null", 15, api.ErrForm, func(t *api.Table) { t.Cols[2].NotNull = true }},
		{"an own reference of another kind", 16, api.ErrType, func(t *api.Table) { t.Cols[2].Kind = api.Int }},
		{"another kind than that of places", 17, api.ErrType, func(t *api.Table) { t.Cols[3].Kind = api.Text }},
		{"a repeated name at the end", 18, api.ErrForm, func(t *api.Table) { t.Cols[4].Name = "up" }},
		{"SetNull without a reference", 19, api.ErrForm, func(t *api.Table) { t.Cols[4].Del = api.SetNull }},
		{"no operation", 20, api.ErrForm, func(t *api.Table) { t.Checks[0] = api.Expr{} }},
		{"a column that isn't there", 20, api.ErrForm, func(t *api.Table) { t.Checks[0] = col(9) }},
		{"too deep", 20, api.ErrLong, func(t *api.Table) { t.Checks[0] = chain(api.MaxDeep+1, col(4)) }},
		{"two kinds", 20, api.ErrType, func(t *api.Table) { t.Checks[0] = node(api.Less, lit(value.Int(1)), lit(value.Text("a"))) }},
		{"a check of a float", 20, api.ErrType, func(t *api.Table) { t.Checks[0] = node(api.Plus, lit(none), lit(value.Float(1))) }},
		{"a check of a text", 20, api.ErrType, func(t *api.Table) { t.Checks[0] = lit(value.Text("a")) }},
		{"a text as truth", 21, api.ErrType, func(t *api.Table) { t.Checks[1] = node(api.Not, lit(value.Text("a"))) }},
		{"too many nodes", 21, api.ErrLong, func(t *api.Table) { t.Checks[1] = api.Expr{Op: api.And, Args: make([]api.Expr, api.MaxExpr)} }},
		{"an unused field", 21, api.ErrForm, func(t *api.Table) { t.Checks[1] = api.Expr{Op: api.Lit, Col: 1} }},
	}
}

// faulty is what the faults are tried in.
func faulty() api.Schema {
	s := base()
	s.Grants = append(s.Grants, api.Grant{Role: 1, Table: "granted", Bits: 1})
	return s
}

func TestFaultyTables(t *testing.T) {
	for _, f := range faults() {
		p := posts()
		f.make(&p)
		checkGood(t, f.name, p, faulty(), f.err)
	}
	checkGood(t, "no columns", api.Table{Name: "a"}, faulty(), api.ErrForm)
	checkGood(t, "nothing", api.Table{}, api.Schema{}, api.ErrForm)
	checkGood(t, "no tables", posts(), api.Schema{}, api.ErrTable)
}

func TestFirstFaultIsReturned(t *testing.T) {
	list := faults()
	for _, a := range list {
		for _, b := range list {
			if a.step >= b.step {
				continue
			}
			p := posts()
			b.make(&p)
			a.make(&p)
			checkGood(t, a.name+", "+b.name, p, faulty(), a.err)
		}
	}
	many := api.Table{Name: "a", Cols: make([]api.Column, api.MaxCols+1), Checks: make([]api.Expr, 5)}
	checkGood(t, "many bad columns", many, api.Schema{}, api.ErrLong)
	checkGood(t, "many bad checks", api.Table{Name: "a", Cols: make([]api.Column, 1), Checks: make([]api.Expr, 5)}, api.Schema{}, api.ErrLong)
	checkGood(t, "no columns, many checks", api.Table{Name: "a", Checks: make([]api.Expr, 5)}, api.Schema{}, api.ErrForm)
	bad := posts()
	bad.Cols[1].Ref, bad.Cols[2].Name, bad.Checks[0] = "gone", "", api.Expr{}
	checkGood(t, "column by column", bad, faulty(), api.ErrTable)
	bad = posts()
	bad.Cols[1].Ref, bad.Cols[1].Name = "gone", "id"
	checkGood(t, "the form of a column first", bad, faulty(), api.ErrForm)
}

func TestOwnNameDenotesTheTableItself(t *testing.T) {
	s := base()
	s.Tables = append([]api.Table{{Name: "posts", Cols: []api.Column{{Name: "id", Kind: api.Int, NotNull: true}}}}, s.Tables...)
	checkGood(t, "a text, as its own key", posts(), s, api.OK)
	p := posts()
	p.Cols[2].Kind = api.Int
	checkGood(t, "a number, as the key of the other one", p, s, api.ErrType)
	s.Tables[0].Cols = nil
	checkGood(t, "the other one has no columns", posts(), s, api.OK)
}

func TestReferencesAreToTheFirstTable(t *testing.T) {
	s := api.Schema{Tables: []api.Table{
		{Name: "x", Cols: []api.Column{{Kind: api.Int}, {Kind: api.Text}}}, {Name: "x", Cols: []api.Column{{Kind: api.Text}}},
		{Name: "y"}, {Name: "y", Cols: []api.Column{{Kind: api.Int}}},
		{Name: "No name", Cols: []api.Column{{Kind: api.Int}}},
	}}
	mine := func(kind int, ref string) api.Table {
		return api.Table{Name: "mine", Cols: []api.Column{{Name: "id", Kind: api.Int, NotNull: true}, {Name: "r", Kind: kind, Ref: ref}}}
	}
	checkGood(t, "the first x", mine(api.Int, "x"), s, api.OK)
	checkGood(t, "the second x", mine(api.Text, "x"), s, api.ErrType)
	checkGood(t, "the first y", mine(api.Int, "y"), s, api.ErrTable)
	checkGood(t, "a table of the schema, whatever its name", mine(api.Int, "No name"), s, api.OK)
}

func TestAllColumns(t *testing.T) {
	s := base()
	for bits := range 4 {
		for kind := -1; kind <= 5; kind++ {
			for del := -1; del <= 4; del++ {
				for _, ref := range []string{"", "users", "places", "mine", "empty", "gone"} {
					c := api.Column{Name: "c", Kind: kind, Del: del, Ref: ref, NotNull: bits&1 != 0, Unique: bits&2 != 0}
					table := api.Table{Name: "mine", Cols: []api.Column{{Name: "id", Kind: api.Text, NotNull: true}, c}}
					checkGood(t, fmt.Sprintf("%+v", c), table, s, wantColumn(c))
					table.Cols = []api.Column{c}
					want := wantColumn(c)
					if ref != "" || bits != 1 {
						want = api.ErrForm
					}
					checkGood(t, fmt.Sprintf("the key %+v", c), table, s, want)
				}
			}
		}
	}
}

// wantColumn is the error of a column behind the key of the table mine.
func wantColumn(c api.Column) api.Errno {
	kinds := map[string]int{"users": api.Int, "places": api.Float, "mine": api.Text}
	switch {
	case c.Kind != api.Int && c.Kind != api.Float && c.Kind != api.Text:
		return api.ErrForm
	case c.Del != 0 && c.Del != 1 && c.Del != 2, c.Ref == "" && c.Del != 0, c.NotNull && c.Del == 2:
		return api.ErrForm
	case c.Ref == "":
		return api.OK
	case kinds[c.Ref] == 0:
		return api.ErrTable
	case kinds[c.Ref] != c.Kind:
		return api.ErrType
	}
	return api.OK
}

func TestChecksThatContainThemselves(t *testing.T) {
	args := make([]api.Expr, 2)
	loop := api.Expr{Op: api.And, Args: args}
	args[0], args[1] = loop, loop
	p := posts()
	p.Checks = []api.Expr{loop}
	s := base()
	s.Tables[0].Checks = p.Checks
	checkGood(t, "of the table", p, s, api.ErrLong)
	checkGood(t, "of one that is referred to", posts(), s, api.OK)
	if got := schema.Row(api.Table{Checks: []api.Expr{loop}}, nil); got != api.ErrCheck {
		t.Errorf("of a row's table: %d", got)
	}
}

// P9.1: validity of rows.

func checkRow(t *testing.T, table api.Table, row []api.Value, want api.Errno) {
	t.Helper()
	if got := schema.Row(table, row); got != want {
		t.Errorf("%+v: %d, want %d", row, got, want)
	}
}

func TestRow(t *testing.T) {
	p := posts()
	key, by, up, at, n := value.Text("p"), value.Int(7), value.Text("q"), value.Float(0.5), value.Int(5)
	null := api.Value{}
	for _, row := range [][]api.Value{
		{key, by, up, at, n},
		{key, by, null, null, null},
		{key, by, null, at, value.Int(8)},
		{key, by, up, at, null},
		{value.Text(""), value.Int(0), value.Text(strings.Repeat("a", 24)), value.Float(math.NaN()), n},
	} {
		checkRow(t, p, row, api.OK)
	}
	for _, c := range []struct {
		row  []api.Value
		want api.Errno
	}{
		{nil, api.ErrForm},
		{[]api.Value{key, by, up, at}, api.ErrForm},
		{[]api.Value{key, by, up, at, n, null}, api.ErrForm},
		{[]api.Value{null, by, null, null, null}, api.ErrNull},
		{[]api.Value{key, null, null, null, null}, api.ErrNull},
		{[]api.Value{by, by, up, at, n}, api.ErrType},
		{[]api.Value{key, key, up, at, n}, api.ErrType},
		{[]api.Value{key, at, up, at, n}, api.ErrType},
		{[]api.Value{key, by, up, n, n}, api.ErrType},
		{[]api.Value{key, by, up, at, at}, api.ErrType},
		{[]api.Value{key, by, up, at, value.Int(9)}, api.ErrCheck},
		{[]api.Value{key, by, up, at, value.Int(4)}, api.ErrCheck},
	} {
		checkRow(t, p, c.row, c.want)
	}
}

func TestInvalidValuesInRows(t *testing.T) {
	for _, v := range []api.Value{
		{Num: 1}, {Text: "a"}, {Kind: api.Int, Text: "a"}, {Kind: api.Float, Num: math.MinInt}, {Kind: api.Float, Num: -1},
		{Kind: api.Float, Text: "a"}, {Kind: api.Text, Num: 1}, value.Text(strings.Repeat("a", 25)), {Kind: 4}, {Kind: -1}, {Kind: math.MaxInt},
	} {
		for _, notNull := range []bool{false, true} {
			for _, kind := range []int{v.Kind, api.Int} {
				checkRow(t, api.Table{Cols: []api.Column{{Kind: kind, NotNull: notNull}}}, []api.Value{v}, api.ErrType)
			}
		}
	}
}

func TestFirstErrorOfARowIsReturned(t *testing.T) {
	never := lit(value.Int(0))
	table := api.Table{Cols: []api.Column{{Kind: api.Int, NotNull: true}, {Kind: api.Text, NotNull: true}, {Kind: api.Int}}, Checks: []api.Expr{never}}
	num, text, null := value.Int(1), value.Text("a"), api.Value{}
	for _, c := range []struct {
		row  []api.Value
		want api.Errno
	}{
		{[]api.Value{text, null}, api.ErrForm},
		{[]api.Value{text, null, null}, api.ErrType},
		{[]api.Value{null, num, null}, api.ErrNull},
		{[]api.Value{null, text, text}, api.ErrNull},
		{[]api.Value{num, null, text}, api.ErrNull},
		{[]api.Value{num, num, null}, api.ErrType},
		{[]api.Value{num, text, text}, api.ErrType},
		{[]api.Value{num, null, null}, api.ErrNull},
		{[]api.Value{{Num: 1}, text, null}, api.ErrType},
		{[]api.Value{num, text, null}, api.ErrCheck},
	} {
		checkRow(t, table, c.row, c.want)
	}
}

func TestEachCheckHolds(t *testing.T) {
	holds := []api.Expr{lit(value.Int(1)), lit(value.Int(-1)), lit(api.Value{}), lit(value.Float(0)), lit(value.Text("")), col(0)}
	fails := []api.Expr{lit(value.Int(0)), {}, col(1), node(api.Not, lit(value.Text("a"))), chain(api.MaxDeep+1, col(0)), node(api.And, col(0))}
	row := []api.Value{value.Int(3)}
	for _, a := range holds {
		for _, b := range holds {
			checkRow(t, api.Table{Cols: []api.Column{{Kind: api.Int}}, Checks: []api.Expr{a, b}}, row, api.OK)
		}
		for _, b := range fails {
			checkRow(t, api.Table{Cols: []api.Column{{Kind: api.Int}}, Checks: []api.Expr{a, b}}, row, api.ErrCheck)
			checkRow(t, api.Table{Cols: []api.Column{{Kind: api.Int}}, Checks: []api.Expr{b, a}}, row, api.ErrCheck)
		}
	}
	checkRow(t, api.Table{}, nil, api.OK)
	checkRow(t, api.Table{Checks: fails[:1]}, nil, api.ErrCheck)
}

func TestRowsOfInvalidTables(t *testing.T) {
	wide := api.Table{Cols: make([]api.Column, 100), Checks: make([]api.Expr, 0, 9)}
	row := make([]api.Value, 100)
	checkRow(t, wide, row, api.OK)
	row[99] = value.Int(1)
	checkRow(t, wide, row, api.ErrType)
	checkRow(t, wide, row[:99], api.ErrForm)
	for range 9 {
		wide.Checks = append(wide.Checks, lit(value.Int(1)))
	}
	row[99] = api.Value{}
	checkRow(t, wide, row, api.OK)
	wide.Checks[8] = lit(value.Int(0))
	checkRow(t, wide, row, api.ErrCheck)
}

// P9.1: nothing is changed, kept or shared.

func TestArgumentsStay(t *testing.T) {
	s := full()
	room := append(s.Tables, api.Table{Name: "spare"})
	s.Tables = room[:len(s.Tables)]
	p := posts()
	cols := append(p.Cols, api.Column{Name: "spare"})
	p.Cols = cols[:len(p.Cols)]
	row := []api.Value{value.Text("p"), value.Int(1), {}, {}, {}, value.Int(9)}
	schema.Find(s, "posts")
	schema.Place(p, "n")
	schema.Good(p, s)
	schema.Links(s, "users")
	schema.Row(p, row[:5])
	schema.Bytes(s)
	if !reflect.DeepEqual(s, full()) || room[4].Name != "spare" || cols[5].Name != "spare" || row[5] != value.Int(9) {
		t.Error("an argument was changed")
	}
}

func TestResultsAreNew(t *testing.T) {
	s := full()
	s.Tables[3].Checks[1].Args[0].Args[0].Args = []api.Expr{col(7)}
	want := schema.Bytes(s)
	got, _ := schema.Find(s, "posts")
	spoil(&got)
	if schema.Bytes(s) != want {
		t.Error("Find shares memory with the schema")
	}
	again, _ := schema.Find(s, "posts")
	if !reflect.DeepEqual(again, s.Tables[3]) {
		t.Error("Find shares memory with its result")
	}
	links := schema.Links(s, "users")
	links[0] = schema.Link{Table: "x", Col: 9}
	if schema.Links(s, "users")[0] != (schema.Link{Table: "posts", Col: 1}) {
		t.Error("Links shares memory with its result")
	}
	first, _ := schema.Read(want)
	for i := range first.Tables {
		spoil(&first.Tables[i])
	}
	first.Tables[0], first.Grants[0] = api.Table{}, api.Grant{}
	second, _ := schema.Read(want)
	if schema.Bytes(second) != want {
		t.Error("Read shares memory with its result")
	}
}

// spoil changes all that a table's slices reach, and appends to them.
func spoil(t *api.Table) {
	for i := range t.Cols {
		t.Cols[i] = api.Column{Name: "spoiled"}
	}
	t.Cols = append(t.Cols, api.Column{})
	spoilAll(t.Checks)
}

func spoilAll(list []api.Expr) {
	for i := range list {
		spoilAll(list[i].Args)
		list[i].Op, list[i].Args = 99, nil
	}
}

// Two parts of a table may share operands; those of a result don't.
func TestOperandsOfResultsAreNotShared(t *testing.T) {
	args := []api.Expr{col(0), col(0)}
	s := api.Schema{Tables: []api.Table{{Name: "a", Checks: []api.Expr{{Op: api.Less, Args: args}, {Op: api.Equal, Args: args}}}}}
	got, _ := schema.Find(s, "a")
	got.Checks[0].Args[0].Col = 5
	if got.Checks[1].Args[0].Col != 0 || args[0].Col != 0 {
		t.Error("operands are shared")
	}
}

func TestDeepTablesAreFoundAndEncoded(t *testing.T) {
	deep := chain(1<<15, col(0))
	s := api.Schema{Tables: []api.Table{{Name: "a", Checks: []api.Expr{deep}}}}
	got, ok := schema.Find(s, "a")
	if !ok || schema.Bytes(api.Schema{Tables: []api.Table{got}}) != schema.Bytes(s) {
		t.Error("a deep table isn't found")
	}
	if _, err := schema.Read(schema.Bytes(s)); err != api.ErrForm {
		t.Errorf("it is read: %d", err)
	}
}

func ExampleGood() {
	users := api.Table{Name: "users", Cols: []api.Column{{Name: "id", Kind: api.Int, NotNull: true}}}
	s := api.Schema{Tables: []api.Table{users}}
	fmt.Println(schema.Good(api.Table{Name: "empty"}, s) == api.ErrForm, schema.Good(users, s) == api.OK)
	// Output: true true
}
