package ddl_test

import (
	"fmt"
	"math"
	"reflect"
	"slices"
	"strings"
	"testing"

	"mortmain/api"
	"mortmain/ddl"
	"mortmain/schema"
	"mortmain/value"
)

func key(kind int) api.Column { return api.Column{Name: "id", Kind: kind, NotNull: true} }

// table is one with a number as its key, and these columns.
func table(name string, owner int, cols ...api.Column) api.Table {
	return api.Table{Name: name, Owner: owner, Cols: append([]api.Column{key(api.Int)}, cols...)}
}

func refers(name, to string) api.Column { return api.Column{Name: name, Kind: api.Int, Ref: to} }

func create(def api.Table) api.Stmt { return api.Stmt{Kind: api.Create, Def: def} }

func drop(name string) api.Stmt { return api.Stmt{Kind: api.Drop, Table: name} }

func grantTo(name string, role, bits int) api.Stmt {
	return api.Stmt{Kind: api.GrantTo, Table: name, Role: role, Bits: bits}
}

func revoke(name string, role, bits int) api.Stmt {
	return api.Stmt{Kind: api.Revoke, Table: name, Role: role, Bits: bits}
}

func lit(v api.Value) api.Expr { return api.Expr{Op: api.Lit, Val: v} }

func node(op int, args ...api.Expr) api.Expr { return api.Expr{Op: op, Args: args} }

// bushy is a check over texts: each of them equals a.
func bushy(texts []string) api.Expr {
	if len(texts) > 1 {
		half := len(texts) / 2
		return node(api.And, bushy(texts[:half]), bushy(texts[half:]))
	}
	return node(api.Equal, lit(value.Text("a")), lit(value.Text(texts[0])))
}

// posts refers to users and to itself, and has checks.
func posts() api.Table {
	return api.Table{Name: "posts", Owner: 3, Cols: []api.Column{
		key(api.Text),
		{Name: "by", Kind: api.Int, NotNull: true, Ref: "users", Del: api.Cascade},
		{Name: "up", Kind: api.Text, Ref: "posts", Del: api.SetNull},
	}, Checks: []api.Expr{bushy([]string{"a", "b", "c"}), node(api.IsNull, api.Expr{Op: api.Col, Col: 2})}}
}

// base is a consistent schema.
func base() api.Schema {
	return api.Schema{Version: 7, Tables: []api.Table{
		table("users", 1, api.Column{Name: "mail", Kind: api.Text, Unique: true}), table("places", 7), posts(), table("empty", 0),
	}, Grants: []api.Grant{
		{Role: 1, Table: "places", Bits: 4},
		{Role: 2, Table: "places", Bits: 16},
		{Role: 2, Table: "users", Bits: 15},
		{Role: 3, Table: "posts", Bits: 1},
		{Role: 3, Table: "users", Bits: 16},
		{Role: 4, Table: "empty", Bits: 31},
		{Role: 5, Table: "users", Bits: 31},
	}}
}

// copied is a copy that shares no memory with s.
func copied(s api.Schema) api.Schema {
	out, err := schema.Read(schema.Bytes(s))
	if err != api.OK {
		panic("beyond the bounds")
	}
	return out
}

func want(t *testing.T, name string, s api.Schema, role int, st api.Stmt, change func(s *api.Schema)) {
	t.Helper()
	expected := copied(s)
	expected.Version++
	change(&expected)
	got, err := ddl.Apply(s, role, st)
	if err != api.OK || !same(got, expected) {
		t.Errorf("%s: %d, %+v, want %+v", name, err, got, expected)
	}
}

func wantErr(t *testing.T, name string, s api.Schema, role int, st api.Stmt, expected api.Errno) {
	t.Helper()
	got, err := ddl.Apply(s, role, st)
	if err != expected || err != api.OK && !reflect.DeepEqual(got, api.Schema{}) {
		t.Errorf("%s: %d, %+v, want %d", name, err, got, expected)
	}
}

// P11.1: Is, and who may do what.

func TestIs(t *testing.T) {
	for kind := -300; kind <= 300; kind++ {
		for _, st := range []api.Stmt{{}, {Table: "users", Key: value.Int(1), Def: posts(), Role: 1, Bits: 31}} {
			st.Kind = kind
			if got := ddl.Is(st); got != (kind >= 6 && kind <= 9) {
				t.Errorf("%d: %v", kind, got)
			}
		}
	}
	for _, kind := range []int{math.MinInt, math.MaxInt, 1<<32 + 6, -6} {
		if ddl.Is(api.Stmt{Kind: kind}) {
			t.Errorf("%d is no kind", kind)
		}
	}
}

func TestRolesThatAreNone(t *testing.T) {
	for _, role := range []int{-1, 8, 9, math.MaxInt, math.MinInt} {
		s := base()
		s.Tables[0].Owner = role
		for kind := -1; kind <= 11; kind++ {
			for _, name := range []string{"users", "places", "gone", ""} {
				st := api.Stmt{Kind: kind, Table: name, Def: table(name, role), Role: 1, Bits: 1}
				wantErr(t, fmt.Sprint(role, " ", kind, " ", name), s, role, st, api.ErrDeny)
			}
		}
	}
}

func TestOtherStatements(t *testing.T) {
	for _, kind := range []int{math.MinInt, -1, 0, 1, 2, 3, 4, 5, 10, 11, math.MaxInt} {
		for role := range 8 {
			for _, name := range []string{"users", "gone", "fresh"} {
				st := api.Stmt{Kind: kind, Table: name, Def: table(name, role), Role: 1, Bits: 1}
				wantErr(t, fmt.Sprint(role, " ", kind, " ", name), base(), role, st, api.ErrArg)
			}
		}
	}
}

// P11.1: the version.
func TestVersion(t *testing.T) {
	for _, version := range []int{0, 1, 63, 64, -1, -64, -65, 1 << 40, math.MaxInt - 1, math.MaxInt, math.MinInt} {
		s := base()
		s.Version = version
		for _, st := range []api.Stmt{create(table("a", 0)), drop("empty"), grantTo("empty", 1, 1), revoke("empty", 4, 1), revoke("empty", 1, 1)} {
			got, err := ddl.Apply(s, 0, st)
			if err != api.OK || got.Version != version+1 {
				t.Errorf("%d, %d: %d, %d", version, st.Kind, err, got.Version)
			}
		}
		wantErr(t, "an error", s, 0, drop("gone"), api.ErrTable)
	}
}

// P11.1: Create.

func appended(x api.Table, owner int) func(s *api.Schema) {
	x.Owner = owner
	return func(s *api.Schema) { s.Tables = append(s.Tables, x) }
}

func TestCreate(t *testing.T) {
	empty := api.Schema{}
	for role := range 8 {
		for _, owner := range []int{0, role, 5, -1, 8, 99, math.MaxInt, math.MinInt} {
			want(t, "the first table", empty, role, create(table("a", owner)), appended(table("a", 0), role))
			want(t, "another table", base(), role, create(table("a", owner)), appended(table("a", 0), role))
		}
	}
	p := posts()
	p.Name, p.Cols[2].Ref = "texts", "texts"
	want(t, "checks and references", base(), 3, create(p), appended(p, 3))
	junk := create(p)
	junk.Table, junk.Role, junk.Bits, junk.Col, junk.Key, junk.Vals = "users", 77, -1, "x", value.Int(4), []api.Value{{Kind: 9}}
	want(t, "other fields", base(), 3, junk, appended(p, 3))
}

func TestCreateOfATableThatIsThere(t *testing.T) {
	for role := range 8 {
		for _, x := range base().Tables {
			wantErr(t, x.Name, base(), role, create(x), api.ErrTable)
			wantErr(t, "only the name", base(), role, create(api.Table{Name: x.Name}), api.ErrTable)
		}
	}
	odd := api.Schema{Tables: []api.Table{{Name: "No name"}, {}}}
	wantErr(t, "a table whose name isn't one", odd, 0, create(table("No name", 0)), api.ErrTable)
	wantErr(t, "a table with the empty name", odd, 0, create(table("", 0)), api.ErrTable)
	wantErr(t, "no such table", base(), 0, create(table("No name", 0)), api.ErrForm)
	for _, name := range []string{"user", "userss", "user_", "a"} {
		want(t, name, base(), 2, create(table(name, 0)), appended(table(name, 0), 2))
	}
}

func TestCreateOfInvalidTables(t *testing.T) {
	one := lit(value.Int(1))
	check := func(list ...api.Expr) api.Table {
		x := table("a", 0)
		x.Checks = list
		return x
	}
	for name, c := range map[string]struct {
		def api.Table
		err api.Errno
	}{
		"no name":                      {table("", 0), api.ErrForm},
		"a bad name":                   {table("A", 0), api.ErrForm},
		"a long name":                  {table("abcdefghijklm", 0), api.ErrForm},
		"no columns":                   {api.Table{Name: "a"}, api.ErrForm},
		"a column twice":               {table("a", 0, refers("x", "users"), refers("x", "users")), api.ErrForm},
		"a kind that is none":          {table("a", 0, api.Column{Name: "x", Kind: 4}), api.ErrForm},
		"cascade without a reference":  {table("a", 0, api.Column{Name: "x", Kind: 1, Del: 1}), api.ErrForm},
		"seven columns":                {api.Table{Name: "a", Cols: make([]api.Column, 7)}, api.ErrLong},
		"five checks":                  {check(one, one, one, one, one), api.ErrLong},
		"a table that isn't there":     {table("a", 0, refers("x", "gone")), api.ErrTable},
		"a key of another kind":        {table("a", 0, refers("x", "posts")), api.ErrType},
		"itself, of another kind":      {table("a", 0, api.Column{Name: "x", Kind: api.Text, Ref: "a"}), api.ErrType},
		"a check of another kind":      {check(one, lit(value.Text("a"))), api.ErrType},
		"a check that isn't complete":  {check(node(api.And, one)), api.ErrForm},
		"a check of too many nodes":    {check(bushy(make([]string, 13))), api.ErrLong},
		"a check of a column too many": {check(api.Expr{Op: api.Col, Col: 1}), api.ErrForm},
	} {
		for role := range 8 {
			wantErr(t, name, base(), role, create(c.def), c.err)
		}
	}
	wantErr(t, "a reference to a table without columns", api.Schema{Tables: []api.Table{{Name: "b"}}}, 0, create(table("a", 0, refers("x", "b"))), api.ErrTable)
}

func TestMayRefer(t *testing.T) {
	deny := func(role int, cols ...api.Column) {
		t.Helper()
		wantErr(t, fmt.Sprint(role, " ", cols), base(), role, create(table("a", 0, cols...)), api.ErrDeny)
	}
	allow := func(role int, cols ...api.Column) {
		t.Helper()
		want(t, fmt.Sprint(role, " ", cols), base(), role, create(table("a", 0, cols...)), appended(table("a", 0, cols...), role))
	}
	for role := range 8 {
		// The superuser, the owners, and whom it was granted to.
		for name, list := range map[string][]int{"users": {0, 1, 3, 5}, "places": {0, 2, 7}, "empty": {0, 4}} {
			call := deny
			if slices.Contains(list, role) {
				call = allow
			}
			call(role, refers("x", name))
			call(role, refers("x", "a"), refers("y", name), refers("z", name))
		}
		allow(role, refers("x", "a"))
		allow(role, refers("x", "a"), refers("y", "a"), api.Column{Name: "z", Kind: api.Text})
	}
	deny(1, refers("x", "users"), refers("y", "places"))
	deny(1, refers("x", "places"), refers("y", "users"))
	deny(2, refers("x", "a"), refers("y", "places"), refers("z", "users"))
	deny(7, refers("x", "users"), refers("y", "a"), refers("z", "places"))
	allow(0, refers("x", "users"), refers("y", "places"), refers("z", "a"))
}

// With the owner that the definition names, things would be different.
func TestTheRoleCountsNotTheOwner(t *testing.T) {
	def := table("a", 1, refers("x", "users"))
	wantErr(t, "the owner may refer", base(), 2, create(def), api.ErrDeny)
	def.Owner = 2
	want(t, "the owner may not refer", base(), 1, create(def), appended(def, 1))
}

func TestNumberOfTables(t *testing.T) {
	for n := range 20 {
		s := api.Schema{}
		for i := range n {
			s.Tables = append(s.Tables, table(fmt.Sprint("t", i), 1))
		}
		for role := range 8 {
			if n < 12 {
				want(t, fmt.Sprint(n, " tables"), s, role, create(table("a", 0)), appended(table("a", 0), role))
			} else {
				wantErr(t, fmt.Sprint(n, " tables"), s, role, create(table("a", 0)), api.ErrLong)
			}
		}
	}
}

// The first of several errors is the result, for all sets of them.
func TestOrderOfCreate(t *testing.T) {
	for set := range 32 {
		s, def, expected := base(), table("a", 0, refers("x", "users")), api.OK
		role := 1
		fault := func(bit int, err api.Errno, change func()) {
			if set&bit == 0 {
				return
			}
			change()
			if expected == api.OK {
				expected = err
			}
		}
		fault(1, api.ErrTable, func() { s.Tables = append(s.Tables, table("a", 1)) })
		fault(2, api.ErrForm, func() { def.Cols[1].Kind = 9 })
		fault(4, api.ErrDeny, func() { role = 6 })
		fault(8, api.ErrLong, func() { s.Tables = append(s.Tables, make([]api.Table, 12)...) })
		fault(16, api.ErrLong, func() { s.Grants = append(s.Grants, api.Grant{Role: 7, Table: strings.Repeat("x", 9000), Bits: 1}) })
		wantErr(t, fmt.Sprint("faults ", set), s, role, create(def), expected)
	}
}

// P11.1: Drop.

func without(i int) func(s *api.Schema) {
	return func(s *api.Schema) {
		name := s.Tables[i].Name
		s.Tables = slices.Delete(s.Tables, i, i+1)
		s.Grants = slices.DeleteFunc(s.Grants, func(g api.Grant) bool { return g.Table == name })
	}
}

func TestDrop(t *testing.T) {
	for i, owner := range []int{1, 7, 3, 0} {
		name := base().Tables[i].Name
		for role := range 8 {
			switch {
			case role != 0 && role != owner:
				wantErr(t, name, base(), role, drop(name), api.ErrDeny)
			case name == "users":
				wantErr(t, name, base(), role, drop(name), api.ErrRef)
			default:
				want(t, name, base(), role, drop(name), without(i))
			}
		}
	}
	s, err := ddl.Apply(base(), 3, drop("posts"))
	if err != api.OK {
		t.Fatal(err)
	}
	want(t, "nothing refers to it any more", s, 1, drop("users"), without(0))
	junk := drop("places")
	junk.Def, junk.Role, junk.Bits, junk.Key = posts(), 77, -1, value.Int(3)
	want(t, "other fields", base(), 7, junk, without(1))
}

func TestDropOfTablesThatAreNotThere(t *testing.T) {
	for role := range 8 {
		for _, name := range []string{"", "gone", "user", "userss", "Users", "users\x00"} {
			wantErr(t, name, base(), role, drop(name), api.ErrTable)
			wantErr(t, name, api.Schema{}, role, drop(name), api.ErrTable)
		}
	}
}

func TestDropOfTablesThatAreReferredTo(t *testing.T) {
	for del := range 3 {
		for at := 1; at < 6; at++ {
			user := table("b", 2, api.Column{Name: "c1", Kind: 1}, api.Column{Name: "c2", Kind: 1}, api.Column{Name: "c3", Kind: 1}, api.Column{Name: "c4", Kind: 1}, api.Column{Name: "c5", Kind: 1})
			user.Cols[at].Ref, user.Cols[at].Del = "a", del
			s := api.Schema{Tables: []api.Table{table("a", 1), user, table("c", 1, refers("x", "c"), refers("y", "b"))}}
			for _, role := range []int{0, 1} {
				wantErr(t, "by another one", s, role, drop("a"), api.ErrRef)
				want(t, "by itself", s, role, drop("c"), without(2))
			}
			wantErr(t, "not the owner", s, 2, drop("a"), api.ErrDeny)
			wantErr(t, "by the next one", s, 2, drop("b"), api.ErrRef)
		}
	}
	both := api.Schema{Tables: []api.Table{table("a", 1, refers("x", "a")), table("b", 1, refers("x", "a"))}}
	wantErr(t, "by itself and another one", both, 1, drop("a"), api.ErrRef)
}

func TestDropOfTheFirstTable(t *testing.T) {
	s := api.Schema{Tables: []api.Table{table("b", 1), table("a", 2), table("a", 3, refers("x", "a")), table("a", 2)},
		Grants: []api.Grant{{Role: 1, Table: "a", Bits: 1}, {Role: 1, Table: "b", Bits: 1}, {Role: 4, Table: "a", Bits: 1}, {Role: 5, Table: "gone", Bits: 1}}}
	want(t, "its owner", s, 2, drop("a"), without(1))
	want(t, "the superuser", s, 0, drop("a"), without(1))
	wantErr(t, "the owner of the next one", s, 3, drop("a"), api.ErrDeny)
	s.Tables[0].Cols = append(s.Tables[0].Cols, refers("x", "a"))
	wantErr(t, "a reference", s, 2, drop("a"), api.ErrRef)
}

// Columns without a reference don't refer to the table with the empty name.
func TestDropOfTheEmptyName(t *testing.T) {
	s := base()
	s.Tables = append(s.Tables, api.Table{Owner: 4}, api.Table{Name: "No name", Owner: 4})
	want(t, "its owner", s, 4, drop(""), without(4))
	wantErr(t, "another role", s, 3, drop(""), api.ErrDeny)
	want(t, "a name that isn't one", s, 4, drop("No name"), without(5))
}

// P11.1: GrantTo and Revoke.

func grants(list ...api.Grant) func(s *api.Schema) {
	return func(s *api.Schema) { s.Grants = list }
}

func TestGrantTo(t *testing.T) {
	a, b := api.Grant{Role: 1, Table: "a", Bits: 5}, api.Grant{Role: 3, Table: "a", Bits: 8}
	s := api.Schema{Version: 1, Tables: []api.Table{table("a", 2), table("b", 4)}, Grants: []api.Grant{a, b}}
	for _, role := range []int{0, 2} {
		want(t, "in between", s, role, grantTo("a", 2, 31), grants(a, api.Grant{Role: 2, Table: "a", Bits: 31}, b))
		want(t, "at the end", s, role, grantTo("a", 7, 1), grants(a, b, api.Grant{Role: 7, Table: "a", Bits: 1}))
		want(t, "more bits", s, role, grantTo("a", 1, 6), grants(api.Grant{Role: 1, Table: "a", Bits: 7}, b))
		want(t, "the same bits", s, role, grantTo("a", 1, 4), grants(a, b))
	}
	want(t, "another table", s, 4, grantTo("b", 1, 2), grants(a, api.Grant{Role: 1, Table: "b", Bits: 2}, b))
	junk := grantTo("b", 1, 2)
	junk.Def, junk.Key, junk.Col = posts(), value.Int(1), "x"
	want(t, "other fields", s, 4, junk, grants(a, api.Grant{Role: 1, Table: "b", Bits: 2}, b))
}

func TestRevoke(t *testing.T) {
	a, b := api.Grant{Role: 1, Table: "a", Bits: 5}, api.Grant{Role: 3, Table: "a", Bits: 8}
	s := api.Schema{Version: 1, Tables: []api.Table{table("a", 2), table("b", 4)}, Grants: []api.Grant{a, b}}
	for _, role := range []int{0, 2} {
		want(t, "a bit", s, role, revoke("a", 1, 1), grants(api.Grant{Role: 1, Table: "a", Bits: 4}, b))
		want(t, "all bits", s, role, revoke("a", 1, 5), grants(b))
		want(t, "more than all bits", s, role, revoke("a", 3, 31), grants(a))
		want(t, "other bits", s, role, revoke("a", 3, 23), grants(a, b))
		want(t, "another role", s, role, revoke("a", 2, 1), grants(a, b))
	}
	want(t, "another table", s, 4, revoke("b", 1, 5), grants(a, b))
}

func TestOrderOfGrants(t *testing.T) {
	for _, call := range []func(string, int, int) api.Stmt{grantTo, revoke} {
		for role := range 8 {
			wantErr(t, "no table", base(), role, call("gone", 0, 0), api.ErrTable)
			wantErr(t, "no table, a good grant", base(), role, call("gone", 1, 1), api.ErrTable)
			wantErr(t, "no table, an empty name", base(), role, call("", 1, 1), api.ErrTable)
			expected := api.ErrDeny
			if role == 0 || role == 1 {
				expected = api.ErrArg
			}
			for _, g := range []api.Grant{{Role: 0, Bits: 1}, {Role: 8, Bits: 1}, {Role: -1, Bits: 1}, {Role: 1}, {Role: 1, Bits: 32}, {Role: 1, Bits: -1}, {Role: math.MaxInt, Bits: math.MinInt}} {
				wantErr(t, fmt.Sprint(g), base(), role, call("users", g.Role, g.Bits), expected)
			}
			if expected == api.ErrDeny {
				// Role 5 has all privileges, but isn't the owner.
				wantErr(t, "not the owner", base(), role, call("users", 5, 1), api.ErrDeny)
				wantErr(t, "to oneself", base(), role, call("users", role, 1), api.ErrDeny)
			}
		}
		odd := api.Schema{Tables: []api.Table{{Name: "No name", Owner: 2}, {Owner: 2}}}
		for _, name := range []string{"No name", ""} {
			wantErr(t, name, odd, 2, call(name, 1, 1), api.ErrArg)
			wantErr(t, name, odd, 3, call(name, 1, 1), api.ErrDeny)
		}
		two := api.Schema{Tables: []api.Table{table("a", 2), table("a", 3)}}
		wantErr(t, "the owner of the first one", two, 2, call("a", 1, 1), api.OK)
		wantErr(t, "the owner of the second one", two, 3, call("a", 1, 1), api.ErrDeny)
	}
}

// crowded is a consistent schema with MaxGrants grants.
func crowded() api.Schema {
	s := api.Schema{}
	for i := range 12 {
		s.Tables = append(s.Tables, table(fmt.Sprintf("t%02d", i), i%8))
	}
	for i := range 64 {
		s.Grants = append(s.Grants, api.Grant{Role: 1 + i/10, Table: fmt.Sprintf("t%02d", i%10), Bits: 9})
	}
	return s
}

func TestNumberOfGrants(t *testing.T) {
	s := crowded()
	if !ddl.Whole(s) {
		t.Fatal("not consistent")
	}
	wantErr(t, "one more", s, 0, grantTo("t11", 1, 1), api.ErrLong)
	wantErr(t, "one more, at the end", s, 0, grantTo("t04", 7, 1), api.ErrLong)
	wantErr(t, "one more, not the owner", s, 1, grantTo("t11", 1, 1), api.ErrDeny)
	wantErr(t, "one more that isn't valid", s, 0, grantTo("t11", 0, 1), api.ErrArg)
	want(t, "more bits", s, 0, grantTo("t03", 7, 2), func(s *api.Schema) { s.Grants[63].Bits = 11 })
	want(t, "one less", s, 0, revoke("t00", 1, 31), func(s *api.Schema) { s.Grants = s.Grants[1:] })
	want(t, "none of these", s, 0, revoke("t11", 1, 31), func(s *api.Schema) {})
	s.Grants = s.Grants[:63]
	want(t, "the last one", s, 7, grantTo("t07", 7, 1), func(s *api.Schema) { s.Grants = append(s.Grants, api.Grant{Role: 7, Table: "t07", Bits: 1}) })
}

// P11.1: MaxSchema.

// sized is a consistent schema whose encoding has that many bytes.
func sized(t *testing.T, version, size int) api.Schema {
	t.Helper()
	texts := make([]string, 11*4*6)
	build := func() api.Schema {
		s := api.Schema{Version: version, Grants: []api.Grant{{Role: 2, Table: "t0", Bits: 3}}}
		for i, rest := 0, texts; i < 11; i++ {
			x := table(fmt.Sprint("t", i), 1)
			for range 4 {
				x.Checks = append(x.Checks, bushy(rest[:6]))
				rest = rest[6:]
			}
			s.Tables = append(s.Tables, x)
		}
		return s
	}
	rest := size - len(schema.Bytes(build()))
	for i := range texts {
		texts[i] = strings.Repeat("a", max(0, min(24, rest)))
		rest -= len(texts[i])
	}
	s := build()
	if got := len(schema.Bytes(s)); got != size || !ddl.Whole(s) {
		t.Fatalf("%d bytes, want %d", got, size)
	}
	return s
}

func TestSize(t *testing.T) {
	p := posts()
	p.Cols[1].Ref = "t3"
	for i, st := range []api.Stmt{
		create(p), create(table("a", 0)), drop("t0"), drop("t8"), grantTo("t0", 2, 4), grantTo("t1", 3, 1), revoke("t0", 2, 1), revoke("t0", 2, 31), revoke("t1", 1, 1),
	} {
		for _, version := range []int{0, 62, 63, 64, math.MaxInt - 1} {
			next := func(s api.Schema) api.Schema {
				out, err := modelNext(s, 1, st)
				if err != api.OK {
					t.Fatal(err)
				}
				return out
			}
			more := len(schema.Bytes(next(sized(t, version, 9000)))) - 9000
			for now := 8188; now <= 8196; now++ {
				s := sized(t, version, now-more)
				expected := next(s)
				if len(schema.Bytes(expected)) != now {
					t.Fatalf("statement %d: not %d bytes", i, now)
				}
				if now > 8192 {
					wantErr(t, fmt.Sprint("statement ", i, ", bytes ", now), s, 1, st, api.ErrLong)
				} else {
					want(t, fmt.Sprint("statement ", i, ", bytes ", now), s, 1, st, func(s *api.Schema) { s.Tables, s.Grants = expected.Tables, expected.Grants })
				}
			}
		}
	}
}

// The next version counts, not the one before.
func TestSizeOfTheVersion(t *testing.T) {
	for size, expected := range map[int]api.Errno{8190: api.OK, 8191: api.OK, 8192: api.ErrLong} {
		wantErr(t, "63", sized(t, 63, size), 0, revoke("t1", 2, 1), expected)
	}
	for size, expected := range map[int]api.Errno{8192: api.OK, 8193: api.ErrLong} {
		wantErr(t, "62", sized(t, 62, size), 0, revoke("t1", 2, 1), expected)
		s := sized(t, 0, size-1)
		s.Version = -65
		wantErr(t, "-65", s, 0, revoke("t1", 2, 1), api.OK)
		wantErr(t, "-65, more grants", s, 0, grantTo("t1", 2, 1), api.ErrLong)
	}
}

// The size is checked last.
func TestErrorsOfLongSchemas(t *testing.T) {
	s := sized(t, 0, 9000)
	wantErr(t, "ErrDeny", s, 8, drop("t0"), api.ErrDeny)
	wantErr(t, "ErrArg", s, 0, api.Stmt{Kind: api.Get}, api.ErrArg)
	wantErr(t, "Create", s, 0, create(table("t0", 0)), api.ErrTable)
	wantErr(t, "Create", s, 0, create(table("A", 0)), api.ErrForm)
	wantErr(t, "Create", s, 2, create(table("a", 0, refers("x", "t0"))), api.ErrDeny)
	wantErr(t, "Drop", s, 0, drop("gone"), api.ErrTable)
	wantErr(t, "Drop", s, 2, drop("t0"), api.ErrDeny)
	s.Tables[1].Cols = append(s.Tables[1].Cols, refers("x", "t0"))
	wantErr(t, "Drop", s, 0, drop("t0"), api.ErrRef)
	wantErr(t, "GrantTo", s, 0, grantTo("t0", 0, 1), api.ErrArg)
	wantErr(t, "Revoke", s, 2, revoke("t0", 1, 1), api.ErrDeny)
	wantErr(t, "Revoke", s, 0, revoke("t0", 2, 31), api.ErrLong)
}
