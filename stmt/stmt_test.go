package stmt_test

import (
	"math"
	"reflect"
	"strings"
	"testing"

	"mortmain/api"
	"mortmain/stmt"
	"mortmain/value"
)

var allKinds = []int{api.Insert, api.Delete, api.Update, api.Get, api.Range, api.Create, api.Drop, api.GrantTo, api.Revoke}

// noKinds are numbers that aren't kinds of statements.
var noKinds = []int{0, -1, -6, 10, 11, 99, 256 + api.Get, 1<<32 + api.Drop, math.MinInt, math.MaxInt}

// field is a field of a statement, and something to set it to.
type field struct {
	name string
	set  func(s *api.Stmt)
}

var fields = []field{
	{"Table", func(s *api.Stmt) { s.Table = "a" }},
	{"Key", func(s *api.Stmt) { s.Key = value.Int(0) }},
	{"Hi", func(s *api.Stmt) { s.Hi = value.Text("") }},
	{"Vals", func(s *api.Stmt) { s.Vals = []api.Value{{}} }},
	{"Col", func(s *api.Stmt) { s.Col = "c" }},
	{"Val", func(s *api.Stmt) { s.Val = value.Float(0) }},
	{"Def", func(s *api.Stmt) { s.Def.Name = "t" }},
	{"Def", func(s *api.Stmt) { s.Def.Owner = 1 }},
	{"Def", func(s *api.Stmt) { s.Def.Cols = []api.Column{{}} }},
	{"Def", func(s *api.Stmt) { s.Def.Checks = []api.Expr{{}} }},
	{"Role", func(s *api.Stmt) { s.Role = -1 }},
	{"Bits", func(s *api.Stmt) { s.Bits = 1 }},
}

// fieldsOf are the names of the fields that a kind has.
func fieldsOf(kind int) string {
	switch kind {
	case api.Insert:
		return "Table Vals"
	case api.Delete, api.Get:
		return "Table Key"
	case api.Update:
		return "Table Key Col Val"
	case api.Range:
		return "Table Key Hi"
	case api.Create:
		return "Def"
	case api.Drop:
		return "Table"
	case api.GrantTo, api.Revoke:
		return "Table Role Bits"
	}
	return ""
}

func has(kind int, field string) bool {
	return strings.Contains(" "+fieldsOf(kind)+" ", " "+field+" ")
}

// badValues are values that aren't valid.
func badValues() []api.Value {
	return []api.Value{
		{Kind: 4}, {Kind: -1}, {Kind: 9, Num: 3}, {Kind: 1<<32 + api.Int},
		{Num: 1}, {Text: "x"},
		{Kind: api.Int, Num: 1, Text: "x"},
		{Kind: api.Float, Num: math.MinInt}, // -0
		{Kind: api.Float, Num: 0x7FF8000000000001},
		{Kind: api.Float, Text: "x"},
		{Kind: api.Text, Num: 1}, value.Text(strings.Repeat("x", 25)),
	}
}

func goodValues() []api.Value {
	return []api.Value{
		{}, value.Int(0), value.Int(math.MinInt), value.Int(math.MaxInt),
		value.Float(0), value.Float(-0.5), value.Float(math.Inf(-1)), value.Float(math.NaN()),
		value.Text(""), value.Text("null"), value.Text("a b: \x00\xff\n"), value.Text(strings.Repeat("x", 24)),
	}
}

func create(t api.Table) api.Stmt { return api.Stmt{Kind: api.Create, Def: t} }

func wantGood(t *testing.T, s api.Stmt, want bool) {
	t.Helper()
	if stmt.Good(s) != want {
		t.Errorf("Good of %+v isn't %v", s, want)
	}
	if text := stmt.Show(s); !want && text != "" {
		t.Errorf("Show of the invalid %+v is %q", s, text)
	}
}

// P12.1: Good.

func TestGoodOfAllSetsOfFields(t *testing.T) {
	for _, kind := range append(noKinds, allKinds...) {
		for set := range 1 << len(fields) {
			s, want := api.Stmt{Kind: kind}, fieldsOf(kind) != ""
			for i, f := range fields {
				if set>>i&1 != 0 {
					f.set(&s)
					want = want && has(kind, f.name)
				}
			}
			if stmt.Good(s) != want {
				t.Fatalf("Good of %+v isn't %v", s, want)
			}
			if !want && stmt.Show(s) != "" {
				t.Fatalf("Show of the invalid %+v is %q", s, stmt.Show(s))
			}
		}
	}
}

func TestGoodTakesEmptyListsAsNone(t *testing.T) {
	for _, kind := range allKinds {
		s := api.Stmt{Kind: kind, Vals: []api.Value{}, Def: api.Table{Cols: []api.Column{}, Checks: []api.Expr{}}}
		wantGood(t, s, true)
	}
	for _, kind := range noKinds {
		wantGood(t, api.Stmt{Kind: kind}, false)
	}
}

func TestGoodOfValues(t *testing.T) {
	check := func(v api.Value, good bool) {
		for _, kind := range allKinds {
			null := v == api.Value{}
			wantGood(t, api.Stmt{Kind: kind, Key: v}, good && (null || has(kind, "Key")))
			wantGood(t, api.Stmt{Kind: kind, Hi: v}, good && (null || has(kind, "Hi")))
			wantGood(t, api.Stmt{Kind: kind, Val: v}, good && (null || has(kind, "Val")))
		}
		for i := range api.MaxCols {
			vals := make([]api.Value, api.MaxCols)
			vals[i] = v
			wantGood(t, api.Stmt{Kind: api.Insert, Vals: vals}, good)
		}
	}
	for _, v := range goodValues() {
		check(v, true)
	}
	for _, v := range badValues() {
		check(v, false)
	}
}

func TestGoodOfLengths(t *testing.T) {
	for n := range 40 {
		name := strings.Repeat("\xff", n)
		for _, kind := range allKinds {
			wantGood(t, api.Stmt{Kind: kind, Table: name}, n == 0 || n <= 12 && has(kind, "Table"))
			wantGood(t, api.Stmt{Kind: kind, Col: name}, n == 0 || n <= 12 && has(kind, "Col"))
			wantGood(t, api.Stmt{Kind: kind, Vals: make([]api.Value, n)}, n == 0 || n <= 6 && has(kind, "Vals"))
		}
	}
}

func TestGoodTakesAllRolesAndBits(t *testing.T) {
	for _, n := range []int{math.MinInt, -1, 0, 1, 7, 8, 31, 32, math.MaxInt} {
		for _, kind := range []int{api.GrantTo, api.Revoke} {
			wantGood(t, api.Stmt{Kind: kind, Table: "a", Role: n}, true)
			wantGood(t, api.Stmt{Kind: kind, Table: "a", Bits: n}, true)
			wantGood(t, api.Stmt{Kind: kind, Table: "a", Role: n, Bits: n}, true)
		}
	}
}

func TestGoodDoesNotCheckTheTableOfACreate(t *testing.T) {
	loop := []api.Expr{{Op: api.Not}}
	loop[0].Args = loop
	for _, def := range []api.Table{
		{},
		{Name: strings.Repeat("x", 13)},
		{Name: "A b:", Owner: -5},
		{Name: "a", Cols: make([]api.Column, 7)},
		{Name: "a", Cols: []api.Column{{Name: strings.Repeat("x", 99), Kind: 99, Ref: strings.Repeat("y", 99), Del: -1}}},
		{Name: "a", Checks: make([]api.Expr, 5)},
		{Name: "a", Checks: []api.Expr{{Op: api.Lit, Val: api.Value{Kind: 9}}}},
		{Name: "a", Checks: loop},
	} {
		wantGood(t, create(def), true)
	}
}

// P12.1: Show.

func TestShow(t *testing.T) {
	k, x := value.Int(-7), value.Text("x")
	for _, c := range []struct {
		s    api.Stmt
		want string
	}{
		{api.Stmt{Kind: api.Insert, Table: "a", Vals: []api.Value{value.Int(1), x, {}}}, "insert a 1 'x null"},
		{api.Stmt{Kind: api.Insert, Table: "a"}, "insert a"},
		{api.Stmt{Kind: api.Insert}, "insert "},
		{api.Stmt{Kind: api.Insert, Vals: []api.Value{value.Int(math.MinInt)}}, "insert  -9223372036854775808"},
		{api.Stmt{Kind: api.Insert, Table: "a", Vals: []api.Value{value.Text(""), value.Text(" a b "), value.Float(math.NaN()), value.Float(1e6)}}, "insert a ' ' a b  fNaN f1e+06"},
		{api.Stmt{Kind: api.Insert, Table: "a", Vals: make([]api.Value, 6)}, "insert a null null null null null null"},
		{api.Stmt{Kind: api.Delete, Table: "ab_1", Key: k}, "delete ab_1 -7"},
		{api.Stmt{Kind: api.Delete}, "delete  null"},
		{api.Stmt{Kind: api.Get, Table: "a", Key: value.Float(math.Inf(1))}, "get a f+Inf"},
		{api.Stmt{Kind: api.Get, Table: "a b:", Key: value.Text("\x00\n\xff")}, "get a b: '\x00\n\xff"},
		{api.Stmt{Kind: api.Update, Table: "a", Key: k, Col: "c", Val: x}, "update a -7 c 'x"},
		{api.Stmt{Kind: api.Update, Table: "a", Key: x, Col: "null"}, "update a 'x null null"},
		{api.Stmt{Kind: api.Update}, "update  null  null"},
		{api.Stmt{Kind: api.Range, Table: "a", Key: k, Hi: x}, "range a -7 'x"},
		{api.Stmt{Kind: api.Range, Table: "abcdefghijkl"}, "range abcdefghijkl null null"},
		{api.Stmt{Kind: api.Drop, Table: "a"}, "drop a"},
		{api.Stmt{Kind: api.Drop}, "drop "},
		{api.Stmt{Kind: api.GrantTo, Table: "a", Role: 2, Bits: 31}, "grant a 2 31"},
		{api.Stmt{Kind: api.GrantTo}, "grant  0 0"},
		{api.Stmt{Kind: api.Revoke, Table: "a", Role: -1, Bits: math.MaxInt}, "revoke a -1 9223372036854775807"},
		{api.Stmt{Kind: api.Revoke, Role: math.MinInt, Bits: -31}, "revoke  -9223372036854775808 -31"},
	} {
		if got := stmt.Show(c.s); got != c.want {
			t.Errorf("%q, want %q", got, c.want)
		}
	}
}

func TestShowOfCreate(t *testing.T) {
	id := api.Column{Name: "id", Kind: api.Int, NotNull: true}
	check := api.Expr{Op: api.IsNull, Args: []api.Expr{{Op: api.Col}}}
	for _, c := range []struct {
		def  api.Table
		want string
	}{
		{api.Table{}, "create "},
		{api.Table{Name: "a"}, "create a"},
		{api.Table{Cols: []api.Column{id}}, "create  id:in"},
		{api.Table{Name: "a", Owner: 5, Cols: []api.Column{id}, Checks: []api.Expr{check}}, "create a id:in"},
		{api.Table{Name: "a", Checks: []api.Expr{check}}, "create a"},
		{api.Table{Name: "a very long name: >?", Cols: []api.Column{{Name: "b c", Kind: api.Text}}}, "create a very long name: >? b c:t"},
		{api.Table{Name: "a", Cols: []api.Column{id, {Kind: api.Float}}}, "create a id:in :f"},
		{api.Table{Name: "a", Cols: []api.Column{id, {Name: "up", Kind: api.Int, Unique: true, Ref: "a", Del: api.SetNull}}}, "create a id:in up:iu>a:s"},
		{api.Table{Name: "a", Cols: []api.Column{{Name: "x:", Kind: api.Int, Ref: "a: b", Del: api.Cascade}}}, "create a x::i>a: b:c"},
		{api.Table{Name: "a", Cols: []api.Column{id, id, id, id, id, id, id}}, "create a" + strings.Repeat(" id:in", 7)},
		// Del has letters only with a reference.
		{api.Table{Name: "a", Cols: []api.Column{{Name: "c", Kind: api.Text, Del: api.Cascade}}}, "create a c:t"},
	} {
		if got := stmt.Show(create(c.def)); got != c.want {
			t.Errorf("%q, want %q", got, c.want)
		}
	}
}

func TestShowOfAllColumns(t *testing.T) {
	kinds := map[int]string{api.Int: "i", api.Float: "f", api.Text: "t"}
	dels := map[int]string{api.Restrict: "r", api.Cascade: "c", api.SetNull: "s"}
	for i, c := range allColumns() {
		want := "create t id:in c:" + kinds[c.Kind]
		if c.NotNull {
			want += "n"
		}
		if c.Unique {
			want += "u"
		}
		if c.Ref != "" {
			want += ">" + c.Ref + ":" + dels[c.Del]
		}
		if kinds[c.Kind] == "" || dels[c.Del] == "" {
			want = ""
		}
		for _, after := range []bool{false, true} {
			cols := []api.Column{{Name: "id", Kind: api.Int, NotNull: true}, c}
			expected := want
			if after && want != "" {
				cols, expected = append(cols, api.Column{Name: "z", Kind: api.Text}), want+" z:t"
			}
			if got := stmt.Show(create(api.Table{Name: "t", Cols: cols})); got != expected {
				t.Errorf("%d: %q, want %q", i, got, expected)
			}
		}
	}
}

// allColumns are all columns c, with kinds and deletions that don't exist, too.
func allColumns() []api.Column {
	var list []api.Column
	for _, kind := range []int{api.Int, api.Float, api.Text, api.Null, 4, -1, 256 + 1, math.MinInt, math.MaxInt} {
		for _, del := range []int{api.Restrict, api.Cascade, api.SetNull, 3, -1, 256, math.MinInt, math.MaxInt} {
			for flags := range 4 {
				for _, ref := range []string{"", "users"} {
					list = append(list, api.Column{Name: "c", Kind: kind, NotNull: flags&1 != 0, Unique: flags&2 != 0, Ref: ref, Del: del})
				}
			}
		}
	}
	return list
}

// The statement stays as it is, with what is behind the ends of its slices.
func TestArgumentsStay(t *testing.T) {
	make1 := func() api.Stmt {
		vals := []api.Value{value.Int(1), value.Text("x"), value.Int(2), value.Int(3)}
		return api.Stmt{Kind: api.Insert, Table: "a", Vals: vals[:2]}
	}
	make2 := func() api.Stmt {
		cols := []api.Column{{Name: "id", Kind: api.Int}, {Name: "b", Kind: api.Text}, {Name: "c"}}
		checks := []api.Expr{{Op: api.IsNull, Args: []api.Expr{{Op: api.Col}}}, {Op: api.Lit}}
		return create(api.Table{Name: "a", Cols: cols[:2], Checks: checks[:1]})
	}
	for i, makeOne := range []func() api.Stmt{make1, make2} {
		s, before := makeOne(), makeOne()
		stmt.Good(s)
		stmt.Show(s)
		same := reflect.DeepEqual(s, before) &&
			reflect.DeepEqual(s.Vals[:cap(s.Vals)], before.Vals[:cap(before.Vals)]) &&
			reflect.DeepEqual(s.Def.Cols[:cap(s.Def.Cols)], before.Def.Cols[:cap(before.Def.Cols)]) &&
			reflect.DeepEqual(s.Def.Checks[:cap(s.Def.Checks)], before.Def.Checks[:cap(before.Def.Checks)])
		if !same {
			t.Errorf("%d was changed", i)
		}
	}
}
