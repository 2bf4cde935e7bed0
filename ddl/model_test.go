package ddl_test

import (
	"cmp"
	"fmt"
	"math"
	"math/rand"
	"slices"
	"strings"
	"testing"

	"mortmain/api"
	"mortmain/ddl"
	"mortmain/schema"
	"mortmain/value"
)

// right is one privilege, of a role, for a table.
type right struct {
	role  int
	table string
	bit   int
}

type rights map[right]int

func rightsOf(list []api.Grant) rights {
	r := rights{}
	for _, g := range list {
		r.give(g)
	}
	return r
}

func (r rights) give(g api.Grant) {
	for bit := 1; bit <= 16; bit *= 2 {
		if g.Bits&bit != 0 {
			r[right{g.Role, g.Table, bit}] = 1
		}
	}
}

func (r rights) take(g api.Grant) {
	for bit := 1; bit <= 16; bit *= 2 {
		if g.Bits&bit != 0 {
			delete(r, right{g.Role, g.Table, bit})
		}
	}
}

// list is the sorted list of grants.
func (r rights) list() []api.Grant {
	bits := map[right]int{}
	for at := range r {
		bits[right{role: at.role, table: at.table}] += at.bit
	}
	var list []api.Grant
	for at, sum := range bits {
		list = append(list, api.Grant{Role: at.role, Table: at.table, Bits: sum})
	}
	slices.SortFunc(list, func(a, b api.Grant) int {
		return cmp.Or(a.Role-b.Role, strings.Compare(a.Table, b.Table))
	})
	return list
}

// model is a schema with its tables by name; of tables with one name it has the first.
type model struct {
	s      api.Schema
	tables map[string]api.Table
	rights rights
}

func modelOf(s api.Schema) model {
	m := model{s, map[string]api.Table{}, rightsOf(s.Grants)}
	for _, t := range slices.Backward(s.Tables) {
		m.tables[t.Name] = t
	}
	return m
}

func (m model) has(table string) bool {
	_, ok := m.tables[table]
	return ok
}

func (m model) owns(role int, table string) bool {
	return m.has(table) && (role == 0 || role == m.tables[table].Owner)
}

// fault is an error, if there is one.
type fault struct {
	is  bool
	err api.Errno
}

func first(faults []fault) api.Errno {
	for _, f := range faults {
		if f.is {
			return f.err
		}
	}
	return api.OK
}

// modelNext is the schema that a statement makes of s, whatever its size.
func modelNext(s api.Schema, role int, st api.Stmt) (api.Schema, api.Errno) {
	if role < 0 || role > 7 {
		return s, api.ErrDeny
	}
	m := modelOf(s)
	var next api.Schema
	var faults []fault
	switch st.Kind {
	case 6:
		next, faults = m.create(role, st.Def)
	case 7:
		next, faults = m.drop(role, st.Table)
	case 8, 9:
		next, faults = m.regrant(role, st)
	default:
		return s, api.ErrArg
	}
	next.Version = s.Version + 1
	return next, first(faults)
}

func (m model) create(role int, def api.Table) (api.Schema, []fault) {
	def.Owner = role
	good, denied := schema.Good(def, m.s), false
	for _, c := range def.Cols {
		if c.Ref != "" && c.Ref != def.Name {
			denied = denied || !m.owns(role, c.Ref) && m.rights[right{role, c.Ref, 16}] == 0
		}
	}
	next := api.Schema{Tables: append(slices.Clone(m.s.Tables), def), Grants: m.s.Grants}
	return next, []fault{{m.has(def.Name), api.ErrTable}, {good != api.OK, good}, {denied, api.ErrDeny}, {len(next.Tables) > 12, api.ErrLong}}
}

func (m model) drop(role int, table string) (api.Schema, []fault) {
	next, referred, dropped := api.Schema{}, false, false
	for _, t := range m.s.Tables {
		for _, c := range t.Cols {
			referred = referred || table != "" && c.Ref == table && t.Name != table
		}
		if t.Name == table && !dropped {
			dropped = true
			continue
		}
		next.Tables = append(next.Tables, t)
	}
	for at := range m.rights {
		if at.table == table {
			delete(m.rights, at)
		}
	}
	next.Grants = m.rights.list()
	return next, []fault{{!m.has(table), api.ErrTable}, {!m.owns(role, table), api.ErrDeny}, {referred, api.ErrRef}}
}

func (m model) regrant(role int, st api.Stmt) (api.Schema, []fault) {
	g := api.Grant{Role: st.Role, Table: st.Table, Bits: st.Bits}
	if st.Kind == 8 {
		m.rights.give(g)
	} else {
		m.rights.take(g)
	}
	bad := g.Role < 1 || g.Role > 7 || !schema.Name(g.Table) || g.Bits < 1 || g.Bits > 31
	next := api.Schema{Tables: m.s.Tables, Grants: m.rights.list()}
	return next, []fault{{!m.has(g.Table), api.ErrTable}, {!m.owns(role, g.Table), api.ErrDeny}, {bad, api.ErrArg}, {len(next.Grants) > 64, api.ErrLong}}
}

func modelApply(s api.Schema, role int, st api.Stmt) (api.Schema, api.Errno) {
	next, err := modelNext(s, role, st)
	if err == api.OK && len(schema.Bytes(next)) > 8192 {
		err = api.ErrLong
	}
	if err != api.OK {
		return api.Schema{}, err
	}
	return next, api.OK
}

func modelWhole(s api.Schema) bool {
	names := map[string]int{}
	whole := s.Version >= 0 && len(s.Tables) <= 12
	for i, t := range s.Tables {
		names[t.Name]++
		whole = whole && names[t.Name] == 1 && schema.Good(t, api.Schema{Tables: s.Tables[:i]}) == api.OK
	}
	for _, g := range s.Grants {
		whole = whole && names[g.Table] > 0 && 1 <= g.Role && g.Role <= 7 && 1 <= g.Bits && g.Bits <= 31
	}
	return whole && len(s.Grants) <= 64 && slices.Equal(s.Grants, rightsOf(s.Grants).list())
}

// same reports whether schemas are equal: then and only then their encodings are.
func same(a, b api.Schema) bool { return schema.Bytes(a) == schema.Bytes(b) }

// step applies a statement, compares the result with the model's, and returns it; s itself after an error.
func step(t *testing.T, s api.Schema, role int, st api.Stmt) (api.Schema, api.Errno) {
	t.Helper()
	before := schema.Bytes(s)
	got, err := ddl.Apply(s, role, st)
	want, wantErr := modelApply(s, role, st)
	if err != wantErr || !same(got, want) {
		t.Fatalf("%+v, role %d, %+v: %d, %+v, want %d, %+v", s, role, st, err, got, wantErr, want)
	}
	if schema.Bytes(s) != before {
		t.Fatalf("role %d, %+v changed its argument", role, st)
	}
	if err != api.OK {
		return s, err
	}
	return got, err
}

// wantRest holds two schemas against each other in all that a statement doesn't name.
func wantRest(t *testing.T, old, s api.Schema, st api.Stmt) {
	t.Helper()
	drops := func(x api.Table) bool {
		return st.Kind == api.Drop && x.Name == st.Table || st.Kind == api.Create && x.Name == st.Def.Name
	}
	names := func(g api.Grant) bool {
		return st.Kind != api.Create && g.Table == st.Table && (st.Kind == api.Drop || g.Role == st.Role)
	}
	rest := func(s api.Schema) api.Schema {
		return api.Schema{Tables: slices.DeleteFunc(slices.Clone(s.Tables), drops), Grants: slices.DeleteFunc(slices.Clone(s.Grants), names)}
	}
	if !same(rest(old), rest(s)) || s.Version != old.Version+1 {
		t.Fatalf("%+v: %+v, was %+v", st, s, old)
	}
}

// P11.2: all sequences of statements from a set, as long as they change something.

func statements() []api.Stmt {
	a := table("a", 0)
	b := table("b", 0, api.Column{Name: "x", Kind: api.Int, Ref: "a"}, api.Column{Name: "y", Kind: api.Int, Ref: "b"})
	return []api.Stmt{
		create(a), create(b), create(table("c", 0, api.Column{Name: "x", Kind: api.Text, Ref: "a"})),
		drop("a"), drop("b"),
		grantTo("a", 2, api.MayRefer), grantTo("a", 2, 3), grantTo("b", 1, 31), revoke("a", 2, 16), revoke("b", 1, 15),
	}
}

func sequences(t *testing.T, s api.Schema, list []api.Stmt, length int) {
	if !ddl.Whole(s) {
		t.Fatalf("%+v is not consistent", s)
	}
	if length == 0 {
		return
	}
	for role := range 3 {
		for _, st := range list {
			next, err := step(t, s, role, st)
			if err == api.OK {
				wantRest(t, s, next, st)
				sequences(t, next, list, length-1)
			}
		}
	}
}

func TestAllShortSequences(t *testing.T) {
	sequences(t, api.Schema{}, statements(), 5)
}

// P11.2: long sequences, which reach the limits.

var pool = strings.Fields("a b c d e f g h users posts places abcdefghijkl zz z9_")

// anyDef is a table, mostly a valid one.
func anyDef(r *rand.Rand) api.Table {
	def := api.Table{Name: pick(r, pool...), Owner: pick(r, 0, 3, -1, 99), Cols: []api.Column{{Name: "id", Kind: 1 + r.Intn(3), NotNull: true}}}
	for i := range r.Intn(4) {
		c := api.Column{Name: pool[i], Kind: 1 + r.Intn(3), Unique: r.Intn(2) == 0}
		if r.Intn(3) > 0 {
			c.Ref, c.Del = pick(r, append(pool, def.Name)...), r.Intn(3)
		}
		def.Cols = append(def.Cols, c)
	}
	for range pick(r, 0, 0, 1, 4) {
		def.Checks = append(def.Checks, bushy([]string{"a", strings.Repeat("b", r.Intn(25))}))
	}
	switch r.Intn(20) {
	case 0:
		def.Name = pick(r, "", "A", "abcdefghijklm")
	case 1:
		def.Cols = def.Cols[:r.Intn(2)]
	case 2:
		def.Cols[0].NotNull = false
	case 3:
		def.Checks = append(def.Checks, api.Expr{Op: api.Col, Col: r.Intn(6)})
	}
	return def
}

// anyStmt is any statement; while the schema is to grow, seldom one that removes something.
func anyStmt(r *rand.Rand, grow bool) api.Stmt {
	name := pick(r, pool...)
	n := r.Intn(20)
	if grow && r.Intn(100) > 0 {
		n = 6 + r.Intn(14)
	}
	switch n {
	case 0:
		return api.Stmt{Kind: pick(r, -1, 0, 1, 2, 3, 4, 5, 10, math.MaxInt), Table: name}
	case 1:
		return api.Stmt{Kind: pick(r, api.GrantTo, api.Revoke), Table: name, Role: pick(r, -1, 0, 8, 1), Bits: pick(r, -1, 0, 32, 1)}
	case 2, 3:
		return drop(name)
	case 4, 5:
		return revoke(name, 1+r.Intn(7), 1+r.Intn(31))
	case 6, 7, 8, 9, 10:
		return create(anyDef(r))
	}
	return grantTo(name, 1+r.Intn(7), 1+r.Intn(31))
}

func TestLongSequences(t *testing.T) {
	r := rand.New(rand.NewSource(1))
	seen := map[string]int{}
	for range 50 {
		s := api.Schema{Version: pick(r, 0, 62, r.Int()/2)}
		for i := range 1000 {
			role, st := pick(r, 0, 0, r.Intn(8), r.Intn(10)-1), anyStmt(r, i < 800)
			next, err := step(t, s, role, st)
			seen[fmt.Sprint(st.Kind, " ", err)]++
			if err == api.OK {
				wantRest(t, s, next, st)
			}
			if s = next; !ddl.Whole(s) {
				t.Fatalf("%+v is not consistent", s)
			}
			seen["tables "+fmt.Sprint(len(s.Tables))]++
			seen["grants "+fmt.Sprint(len(s.Grants))]++
		}
	}
	for _, key := range []string{
		"6 0", "6 3", "6 4", "6 8", "6 9", "6 14", "7 0", "7 8", "7 13", "7 14", "8 0", "8 1", "8 3", "8 8", "8 14", "9 0", "9 1", "9 8", "9 14", "1 1", "tables 12", "grants 64",
	} {
		if seen[key] < 10 {
			t.Errorf("%s: only %d times", key, seen[key])
		}
	}
}

// P11.1: schemas that need not be consistent, with sorted grants.

func pick[T any](r *rand.Rand, list ...T) T { return list[r.Intn(len(list))] }

func oddName(r *rand.Rand) string { return pick(r, "a", "b", "c", "a", "b", "", "No name") }

func oddTable(r *rand.Rand) api.Table {
	x := api.Table{Name: oddName(r), Owner: pick(r, 0, 1, 2, -1, 9)}
	for range r.Intn(4) {
		x.Cols = append(x.Cols, api.Column{Name: pick(r, pool...), Kind: 1, NotNull: true, Ref: pick(r, "", "", oddName(r))})
	}
	return x
}

func oddSchema(r *rand.Rand) api.Schema {
	s := api.Schema{Version: pick(r, 5, -1, -65, 63, math.MaxInt, math.MinInt)}
	for range pick(r, 0, 1, 2, 3, 4, 11, 12, 13, 20) {
		s.Tables = append(s.Tables, oddTable(r))
	}
	granted := rights{}
	for range r.Intn(6) {
		granted.give(api.Grant{Role: 1 + r.Intn(3), Table: pick(r, "a", "b", "c", "gone"), Bits: 1 + r.Intn(31)})
	}
	s.Grants = granted.list()
	return s
}

func oddStmt(r *rand.Rand) api.Stmt {
	st := api.Stmt{Kind: pick(r, 6, 7, 8, 9, r.Intn(12)-1), Table: oddName(r), Role: r.Intn(4), Bits: pick(r, 1+r.Intn(31), 16, 0, 32), Def: oddTable(r)}
	if r.Intn(2) == 0 {
		st.Def = table(pick(r, "a", "b", "c", "d", "d"), r.Intn(9), api.Column{Name: "x", Kind: 1, Ref: oddName(r)})
	}
	return st
}

func TestOddSchemas(t *testing.T) {
	r := rand.New(rand.NewSource(2))
	seen := map[string]int{}
	for range 100000 {
		s, st := oddSchema(r), oddStmt(r)
		_, err := step(t, s, pick(r, 0, 0, 1, 2, 3, 9, -1), st)
		seen[fmt.Sprint(st.Kind, " ", err)]++
		if ddl.Whole(s) != modelWhole(s) {
			t.Fatalf("%+v: %v", s, ddl.Whole(s))
		}
	}
	for _, key := range []string{"6 0", "6 3", "6 4", "6 8", "6 14", "7 0", "7 8", "7 13", "7 14", "8 0", "8 1", "8 8", "8 14", "9 0", "9 1", "9 8", "9 14"} {
		if seen[key] < 100 {
			t.Errorf("%s: only %d times", key, seen[key])
		}
	}
}

// For grants that are not sorted there is no panic.
func TestGrantsThatAreNotSorted(t *testing.T) {
	r := rand.New(rand.NewSource(3))
	for range 5000 {
		s, st := oddSchema(r), oddStmt(r)
		for range r.Intn(100) {
			s.Grants = append(s.Grants, api.Grant{Role: pick(r, 1, r.Intn(9)-1, math.MaxInt), Table: oddName(r), Bits: pick(r, 1, 31, r.Intn(40)-1, math.MinInt)})
		}
		if got, err := ddl.Apply(s, r.Intn(9), st); err != api.OK && !same(got, api.Schema{}) {
			t.Fatalf("%+v: %d, %+v", st, err, got)
		}
		if ddl.Whole(s) != modelWhole(s) {
			t.Fatalf("%+v: %v", s, ddl.Whole(s))
		}
	}
}

// P11.1: Whole, for consistent schemas with one thing changed.
func TestWholeAgreesWithTheModel(t *testing.T) {
	r := rand.New(rand.NewSource(4))
	whole := 0
	for range 20000 {
		s := copied(base())
		x := &s.Tables[r.Intn(len(s.Tables))]
		c := &x.Cols[r.Intn(len(x.Cols))]
		g := &s.Grants[r.Intn(len(s.Grants))]
		switch r.Intn(12) {
		case 0:
			s.Version = pick(r, 0, -1, math.MaxInt, math.MinInt)
		case 1:
			x.Name = pick(r, "users", "posts", "gone", "A", "")
		case 2:
			x.Owner = r.Intn(12) - 2
		case 3:
			c.Name = pick(r, "id", "x", "", "A")
		case 4:
			c.Kind = r.Intn(5)
		case 5:
			c.Ref = pick(r, "users", "posts", "places", "gone", "")
		case 6:
			c.NotNull, c.Unique, c.Del = r.Intn(2) == 0, r.Intn(2) == 0, r.Intn(4)
		case 7:
			g.Role = r.Intn(10) - 1
		case 8:
			g.Table = pick(r, "users", "posts", "gone", "A")
		case 9:
			g.Bits = r.Intn(34) - 1
		case 10:
			i, j := r.Intn(len(s.Tables)), r.Intn(len(s.Tables))
			s.Tables[i], s.Tables[j] = s.Tables[j], s.Tables[i]
		case 11:
			x.Checks = append(x.Checks, api.Expr{Op: api.Lit, Val: pick(r, value.Int(1), value.Text("a"))})
		}
		want := modelWhole(s)
		if ddl.Whole(s) != want {
			t.Fatalf("%+v: not %v", s, want)
		}
		if want {
			whole++
		}
	}
	if whole < 2000 || whole > 18000 {
		t.Errorf("%d were consistent", whole)
	}
}
