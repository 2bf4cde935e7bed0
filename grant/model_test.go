package grant_test

import (
	"cmp"
	"math/rand"
	"slices"
	"strings"
	"testing"

	"mortmain/api"
	"mortmain/grant"
)

// right is one privilege, of a role, for a table.
type right struct {
	role  int
	table string
	bit   int
}

// model is what was granted and not revoked, one privilege at a time.
type model map[right]int

func (m model) change(g api.Grant, give bool) {
	for bit := 1; bit <= 16; bit *= 2 {
		at := right{g.Role, g.Table, bit}
		switch {
		case g.Bits&bit == 0:
		case give:
			m[at] = 1
		default:
			delete(m, at)
		}
	}
}

// list is the sorted list of the same.
func (m model) list() []api.Grant {
	bits := map[right]int{}
	for at := range m {
		bits[right{role: at.role, table: at.table}] += at.bit
	}
	var list []api.Grant
	for at, sum := range bits {
		list = append(list, api.Grant{Role: at.role, Table: at.table, Bits: sum})
	}
	slices.SortFunc(list, func(a, b api.Grant) int {
		return cmp.Or(a.Role-b.Role, strings.Compare(a.Table, b.Table))
	})
	return list
}

// step does a call on the list and on the model, compares them, and returns the list.
func step(t *testing.T, m model, list []api.Grant, g api.Grant, give bool) []api.Grant {
	t.Helper()
	before := slices.Clone(list)
	call := grant.Take
	if give {
		call = grant.Put
	}
	got, err := call(list, g)
	if !slices.Equal(list, before) {
		t.Fatalf("%+v changed its argument", g)
	}
	held := slices.ContainsFunc(list, func(h api.Grant) bool { return h.Role == g.Role && h.Table == g.Table })
	if give && !held && len(list) == api.MaxGrants {
		wantErr(t, "a full list", got, err, api.ErrLong)
		return list
	}
	m.change(g, give)
	if want := m.list(); err != api.OK || !slices.Equal(got, want) || !grant.Sorted(got) {
		t.Fatalf("%+v, %v: %d, %v, want %v", g, give, err, got, want)
	}
	return got
}

// wantRights holds May against the model, for each privilege and all pairs of them.
func wantRights(t *testing.T, m model, s api.Schema) {
	t.Helper()
	for _, table := range s.Tables {
		for role := range api.MaxRoles {
			owns := role == 0 || role == table.Owner
			for one := 1; one <= 16; one *= 2 {
				for two := 1; two <= 16; two *= 2 {
					want := owns || m[right{role, table.Name, one}] == 1 && m[right{role, table.Name, two}] == 1
					if got := grant.May(s, role, table.Name, one|two); got != want {
						t.Fatalf("%d, %s, %d: %v in %v", role, table.Name, one|two, got, s.Grants)
					}
				}
			}
		}
	}
}

func tablesOf(list []string) []api.Table {
	var tables []api.Table
	for i, name := range list {
		tables = append(tables, api.Table{Name: name, Owner: i % 3})
	}
	return tables
}

// P10.2: all sequences of four calls from a set.
func TestAllShortSequences(t *testing.T) {
	var calls []api.Grant
	for _, role := range []int{1, 2} {
		for _, table := range []string{"a", "b"} {
			for _, bits := range []int{1, 2, 3} {
				calls = append(calls, api.Grant{Role: role, Table: table, Bits: bits})
			}
		}
	}
	tables := tablesOf([]string{"x", "a", "c", "b"})
	for n := range 24 * 24 * 24 * 24 {
		m, list := model{}, []api.Grant(nil)
		for i := n; i > 0; i /= 24 {
			list = step(t, m, list, calls[i%24/2], i%2 == 0)
		}
		if n%16 == 0 {
			wantRights(t, m, api.Schema{Tables: tables, Grants: list})
		}
	}
}

// P10.2: long sequences, which fill the list and empty it.
func TestLongSequences(t *testing.T) {
	random := rand.New(rand.NewSource(1))
	tables := tablesOf(strings.Fields("a aa ab b b0 b_ c users posts zz z9 y"))
	fullOnes := 0
	for range 40 {
		m, list := model{}, []api.Grant(nil)
		for i := range 400 {
			g := api.Grant{Role: 1 + random.Intn(7), Table: tables[random.Intn(12)].Name, Bits: 1 + random.Intn(31)}
			give := random.Intn(5) > i/80
			list = step(t, m, list, g, give)
			if len(list) == api.MaxGrants {
				fullOnes++
			}
			if i%20 == 0 {
				wantRights(t, m, api.Schema{Tables: tables, Grants: list})
			}
		}
	}
	if fullOnes < 100 {
		t.Errorf("only %d lists were full", fullOnes)
	}
}

// P10.2: whoever may do something after a call may do it before, but for what was granted, and the other way round.
func TestACallChangesNothingElse(t *testing.T) {
	random := rand.New(rand.NewSource(2))
	tables := tablesOf(names)
	old := api.Schema{Tables: tables, Grants: most()}
	for range 300 {
		g := api.Grant{Role: 1 + random.Intn(7), Table: names[random.Intn(8)], Bits: 1 + random.Intn(31)}
		put, _ := grant.Put(old.Grants, g)
		taken, _ := grant.Take(old.Grants, g)
		more, less := api.Schema{Tables: tables, Grants: put}, api.Schema{Tables: tables, Grants: taken}
		none := api.Schema{Tables: tables, Grants: grant.Without(old.Grants, g.Table)}
		for _, table := range tables {
			for role := range 9 {
				for bit := 1; bit <= 32; bit *= 2 {
					was := grant.May(old, role, table.Name, bit)
					named := role == g.Role && table.Name == g.Table && bit&g.Bits != 0
					owns := grant.Owns(old, role, table.Name)
					if grant.May(more, role, table.Name, bit) != (was || named) ||
						grant.May(less, role, table.Name, bit) != (was && (!named || owns)) ||
						grant.May(none, role, table.Name, bit) != (was && (table.Name != g.Table || owns)) {
						t.Fatalf("%+v: %d, %s, %d", g, role, table.Name, bit)
					}
				}
			}
		}
	}
}

// The rules: arguments stay as they are, also behind their ends, and results are new.

func TestArgumentsStay(t *testing.T) {
	mark := api.Grant{Role: 5, Table: "mark", Bits: 5}
	room := slices.Repeat([]api.Grant{mark}, 100)
	count := copy(room, most())
	list := room[:count]
	results := [][]api.Grant{grant.Without(list, "a"), grant.Without(list, "gone")}
	for _, g := range []api.Grant{{Role: 1, Table: "a", Bits: 31}, {Role: 1, Table: "a0", Bits: 1}, {Role: 7, Table: "zz", Bits: 31}} {
		put, _ := grant.Put(list, g)
		taken, _ := grant.Take(list, g)
		results = append(results, put, taken)
	}
	for _, got := range results {
		for i := range got {
			got[i] = api.Grant{}
		}
		clear(got[len(got):cap(got)])
	}
	if !slices.Equal(list, most()) {
		t.Errorf("the list has changed: %v", list)
	}
	for i, g := range room[count:] {
		if g != mark {
			t.Errorf("%d behind the end: %+v", i, g)
		}
	}
}

func TestResultsStay(t *testing.T) {
	list := full()
	g := api.Grant{Role: 1, Table: "a", Bits: 31}
	put, _ := grant.Put(list, g)
	taken, _ := grant.Take(list, api.Grant{Role: 3, Table: "a0", Bits: 1})
	without := grant.Without(list, "gone")
	clear(list)
	want := full()
	wantList(t, "Take", taken, api.OK, want)
	wantList(t, "Without", without, api.OK, want)
	want[0].Bits = 31
	wantList(t, "Put", put, api.OK, want)
}

// For lists that are not sorted there is no panic.
func TestListsThatAreNotSorted(t *testing.T) {
	random := rand.New(rand.NewSource(3))
	tables := append(tablesOf([]string{"a", "b", "a"}), api.Table{Name: "No name"}, api.Table{})
	for range 3000 {
		var list []api.Grant
		for range random.Intn(100) {
			list = append(list, anyGrant(random))
		}
		s, g := api.Schema{Tables: tables, Grants: list}, anyGrant(random)
		put, err := grant.Put(list, g)
		if err != api.OK {
			wantErr(t, "Put", put, err, err)
		}
		taken, err := grant.Take(list, g)
		if err != api.OK {
			wantErr(t, "Take", taken, err, err)
		}
		if grant.May(s, g.Role, g.Table, g.Bits) && (g.Role < 0 || g.Role > 7) {
			t.Fatalf("%d is no role", g.Role)
		}
		if !grant.May(s, 0, "a", g.Bits) {
			t.Fatal("the superuser may do everything")
		}
		if grant.Sorted(list) != modelSorted(list) {
			t.Fatalf("Sorted: %v", list)
		}
	}
}

func anyGrant(r *rand.Rand) api.Grant {
	return api.Grant{
		Role:  pick(r, 1, 2, r.Intn(8), r.Intn(20)-5, int(r.Uint64())),
		Table: pick(r, "a", "b", "c", "", "No name"),
		Bits:  pick(r, 1, 1+r.Intn(31), r.Intn(80)-10, int(r.Uint64())),
	}
}

func pick[T any](r *rand.Rand, list ...T) T { return list[r.Intn(len(list))] }

// modelSorted builds the list again, from its grants.
func modelSorted(list []api.Grant) bool {
	m := model{}
	for _, g := range list {
		if !grant.Good(g) {
			return false
		}
		m.change(g, true)
	}
	return len(list) <= 64 && slices.Equal(list, m.list())
}

func TestSortedAgreesWithTheModel(t *testing.T) {
	random := rand.New(rand.NewSource(4))
	sorted := 0
	for range 20000 {
		var list []api.Grant
		for range random.Intn(4) {
			list = append(list, api.Grant{Role: random.Intn(4), Table: pick(random, "a", "b", "ab"), Bits: 1 + random.Intn(31)})
		}
		want := modelSorted(list)
		if grant.Sorted(list) != want {
			t.Fatalf("%v: not %v", list, want)
		}
		if want {
			sorted++
		}
	}
	if sorted < 2000 || sorted > 18000 {
		t.Errorf("%d were sorted", sorted)
	}
}
