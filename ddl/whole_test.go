package ddl_test

import (
	"fmt"
	"math"
	"reflect"
	"slices"
	"testing"

	"mortmain/api"
	"mortmain/ddl"
	"mortmain/schema"
	"mortmain/value"
)

// P11.1: Whole.

func TestWhole(t *testing.T) {
	for name, s := range map[string]api.Schema{
		"nothing":                 {},
		"the greatest version":    {Version: math.MaxInt},
		"all":                     base(),
		"the most":                crowded(),
		"more than MaxSchema":     sized(t, 1, 9000),
		"a reference to itself":   {Tables: []api.Table{table("a", 7, refers("x", "a"))}},
		"a reference to the last": {Tables: []api.Table{table("a", 0), table("b", 0), table("c", 0, refers("x", "b"), refers("y", "a"))}},
	} {
		if !ddl.Whole(s) {
			t.Errorf("%s: is consistent", name)
		}
	}
}

func TestWholeOfOthers(t *testing.T) {
	for name, change := range map[string]func(s *api.Schema){
		"version -1":                  func(s *api.Schema) { s.Version = -1 },
		"the least version":           func(s *api.Schema) { s.Version = math.MinInt },
		"a name that isn't one":       func(s *api.Schema) { s.Tables[3].Name = "Empty"; s.Grants = nil },
		"a table twice":               func(s *api.Schema) { s.Tables = append(s.Tables, s.Tables[1]) },
		"a name twice":                func(s *api.Schema) { s.Tables = append(s.Tables, table("users", 5, refers("x", "places"))) },
		"a name twice, the first one": func(s *api.Schema) { s.Tables = slices.Insert(s.Tables, 0, table("empty", 5)) },
		"an owner that is no role":    func(s *api.Schema) { s.Tables[1].Owner = 8 },
		"no columns":                  func(s *api.Schema) { s.Tables[1].Cols = nil },
		"a reference to nothing":      func(s *api.Schema) { s.Tables[2].Cols[1].Ref = "gone" },
		"a reference to a later one":  func(s *api.Schema) { s.Tables[0], s.Tables[2] = s.Tables[2], s.Tables[0] },
		"a reference to the next one": func(s *api.Schema) { s.Tables[0].Cols = append(s.Tables[0].Cols, refers("x", "places")) },
		"a reference of another kind": func(s *api.Schema) { s.Tables[2].Cols[1].Kind = api.Text },
		"a check that isn't one":      func(s *api.Schema) { s.Tables[0].Checks = []api.Expr{{}} },
		"the first of two checks":     func(s *api.Schema) { s.Tables[2].Checks[0] = lit(value.Text("a")) },
		"a grant for no table":        func(s *api.Schema) { s.Grants = append(s.Grants, api.Grant{Role: 6, Table: "gone", Bits: 1}) },
		"the first one for no table": func(s *api.Schema) {
			s.Grants = slices.Insert(s.Grants, 0, api.Grant{Role: 1, Table: "a", Bits: 1})
		},
		"a dropped table":         func(s *api.Schema) { s.Tables = s.Tables[:3] },
		"grants in another order": func(s *api.Schema) { slices.Reverse(s.Grants) },
		"a grant twice":           func(s *api.Schema) { s.Grants = append(s.Grants, s.Grants[6]) },
		"a grant to role 0":       func(s *api.Schema) { s.Grants[0].Role = 0 },
		"a grant to role 8":       func(s *api.Schema) { s.Grants[6].Role = 8 },
		"a grant of nothing":      func(s *api.Schema) { s.Grants[3].Bits = 0 },
		"a grant of bit 32":       func(s *api.Schema) { s.Grants[3].Bits = 32 },
	} {
		s := base()
		change(&s)
		if ddl.Whole(s) {
			t.Errorf("%s: %+v is not consistent", name, s)
		}
	}
}

func TestWholeOfMany(t *testing.T) {
	for n := range 20 {
		s := api.Schema{}
		for i := range n {
			s.Tables = append(s.Tables, table(fmt.Sprint("t", i), 1))
		}
		if got := ddl.Whole(s); got != (n <= 12) {
			t.Errorf("%d tables: %v", n, got)
		}
	}
	s := crowded()
	s.Grants = append(s.Grants, api.Grant{Role: 7, Table: "t04", Bits: 9})
	if ddl.Whole(s) {
		t.Error("65 grants")
	}
	if s.Grants = s.Grants[1:]; !ddl.Whole(s) {
		t.Error("64 grants")
	}
	for i := range base().Tables {
		s := base()
		s.Tables[i].Owner = -1
		if ddl.Whole(s) {
			t.Errorf("table %d isn't valid", i)
		}
	}
}

// By its slices, an expression may contain itself.
func TestEndlessChecks(t *testing.T) {
	x := table("a", 0)
	x.Checks = make([]api.Expr, 1)
	x.Checks[0] = node(api.Not)
	x.Checks[0].Args = x.Checks
	if ddl.Whole(api.Schema{Tables: []api.Table{x}}) {
		t.Error("is consistent")
	}
	wantErr(t, "Create", base(), 0, create(x), api.ErrLong)
}

// P11.2: a consistent schema remains consistent, the version aside.
func TestTheGreatestVersion(t *testing.T) {
	s := base()
	s.Version = math.MaxInt
	got, err := ddl.Apply(s, 0, drop("empty"))
	if err != api.OK || got.Version != math.MinInt || ddl.Whole(got) {
		t.Errorf("%d, %+v", err, got)
	}
	got.Version = 0
	if !ddl.Whole(got) {
		t.Errorf("%+v is not consistent", got)
	}
}

// The rules: arguments stay as they are, also behind their ends, and results are new.

// roomy is s with marks behind the ends of all its slices.
func roomy(s api.Schema) api.Schema {
	s.Tables = roomyList(s.Tables, api.Table{Name: "mark"})
	for i := range s.Tables {
		s.Tables[i] = roomyTable(s.Tables[i])
	}
	s.Grants = roomyList(s.Grants, api.Grant{Table: "mark"})
	return s
}

func roomyTable(t api.Table) api.Table {
	t.Cols = roomyList(t.Cols, api.Column{Name: "mark"})
	t.Checks = roomyExprs(t.Checks)
	return t
}

func roomyExprs(list []api.Expr) []api.Expr {
	list = roomyList(list, api.Expr{Op: 77})
	for i := range list {
		list[i].Args = roomyExprs(list[i].Args)
	}
	return list
}

func roomyList[T any](list []T, mark T) []T {
	n := len(list)
	list = append(slices.Clone(list), slices.Repeat([]T{mark}, 5)...)
	return list[:n]
}

// behind is s with what is behind the ends of its slices, within five more.
func behind(s api.Schema) api.Schema {
	s.Tables = slices.Clone(s.Tables[:len(s.Tables)+5])
	for i := range len(s.Tables) - 5 {
		s.Tables[i] = behindTable(s.Tables[i])
	}
	s.Grants = slices.Clone(s.Grants[:len(s.Grants)+5])
	return s
}

func behindTable(t api.Table) api.Table {
	t.Cols = slices.Clone(t.Cols[:len(t.Cols)+5])
	t.Checks = behindExprs(t.Checks)
	return t
}

func behindExprs(list []api.Expr) []api.Expr {
	n := len(list)
	list = slices.Clone(list[:n+5])
	for i := range n {
		list[i].Args = behindExprs(list[i].Args)
	}
	return list
}

// spoil overwrites all the memory of s.
func spoil(s api.Schema) {
	for i := range s.Tables {
		spoilTable(s.Tables[i])
	}
	clear(s.Tables[:cap(s.Tables)])
	clear(s.Grants[:cap(s.Grants)])
}

func spoilTable(t api.Table) {
	clear(t.Cols[:cap(t.Cols)])
	spoilExprs(t.Checks)
}

func spoilExprs(list []api.Expr) {
	for i := range list {
		spoilExprs(list[i].Args)
	}
	clear(list[:cap(list)])
}

// changes are statements for base, of the superuser; one of each kind, and some that are errors.
func changes() []api.Stmt {
	def := posts()
	def.Name, def.Cols[2].Ref = "texts", "texts"
	return []api.Stmt{
		create(def), create(posts()), create(table("a", 4, refers("x", "gone"))), drop("places"), drop("posts"), drop("empty"), drop("users"),
		grantTo("users", 4, 1), grantTo("users", 5, 1), grantTo("users", 0, 1), revoke("users", 5, 1), revoke("users", 5, 31), revoke("users", 6, 1),
	}
}

func TestArgumentsStay(t *testing.T) {
	for _, st := range changes() {
		s := roomy(base())
		st.Def = roomyTable(st.Def)
		oldSchema, oldDef := behind(s), behindTable(st.Def)
		got, err := ddl.Apply(s, 0, st)
		if err == api.OK {
			spoil(got)
		}
		ddl.Whole(s)
		if !reflect.DeepEqual(behind(s), oldSchema) || !reflect.DeepEqual(behindTable(st.Def), oldDef) {
			t.Errorf("%+v changed its arguments", st)
		}
	}
}

func TestResultsStay(t *testing.T) {
	for _, st := range changes() {
		s, other := base(), base()
		got, err := ddl.Apply(s, 0, st)
		again, _ := ddl.Apply(s, 0, st)
		expected, _ := ddl.Apply(other, 0, st)
		b := schema.Bytes(expected)
		spoil(again)
		spoil(s)
		spoilTable(st.Def)
		if schema.Bytes(got) != b {
			t.Errorf("%d: %+v changed with its arguments", err, got)
		}
	}
}

// No two lists of a result share memory, even where those of the arguments do.
func TestListsOfResultsAreApart(t *testing.T) {
	twin := posts()
	twin.Cols[1] = api.Column{Name: "x", Kind: api.Int}
	twin.Cols[2] = api.Column{Name: "y", Kind: api.Int}
	twin.Checks[1] = twin.Checks[0]
	s := api.Schema{Version: 1, Tables: []api.Table{twin, twin}, Grants: base().Grants}
	s.Tables[1].Name = "twin"
	def := twin
	def.Name = "third"
	for _, st := range []api.Stmt{create(def), drop("twin"), grantTo("twin", 2, 1), revoke("posts", 3, 1)} {
		got, err := ddl.Apply(s, 0, st)
		if err != api.OK {
			t.Fatal(err)
		}
		seen := map[any]int{}
		for _, at := range addresses(twin) {
			seen[at] = 1
		}
		for i, x := range got.Tables {
			for _, at := range addresses(x) {
				if seen[at]++; seen[at] > 1 {
					t.Errorf("%d: a list of table %d is shared", st.Kind, i)
				}
			}
		}
	}
}

// addresses are those of all lists of a table.
func addresses(t api.Table) []any { return append(addressesOf(t.Checks), &t.Cols[0]) }

func addressesOf(list []api.Expr) []any {
	if len(list) == 0 {
		return nil
	}
	out := []any{&list[0]}
	for _, e := range list {
		out = append(out, addressesOf(e.Args)...)
	}
	return out
}
