package grant_test

import (
	"fmt"
	"math"
	"slices"
	"strings"
	"testing"

	"mortmain/api"
	"mortmain/grant"
)

var goodNames = []string{"a", "b", "users", "a0", "a_", "z9_", "abcdefghijkl"}

var badNames = []string{"", "A", "_a", "0a", "a b", "a-", "aB", "\x00", "a\xff", "é", "abcdefghijklm", strings.Repeat("a", 1000)}

// names are those of most's tables: eight of them.
var names = strings.Fields("a aa ab b c ca d e")

// most is a sorted list of MaxGrants - 8 grants, to all roles, with all sorts of bits.
func most() []api.Grant {
	var list []api.Grant
	for role := 1; role < 8; role++ {
		for i, name := range names {
			list = append(list, api.Grant{Role: role, Table: name, Bits: (role*11+i*5)%31 + 1})
		}
	}
	return list
}

// full is a sorted list of MaxGrants grants.
func full() []api.Grant {
	list := most()
	for i := range 8 {
		list = append(list, api.Grant{Role: 7, Table: fmt.Sprint("z", i), Bits: 1})
	}
	return list
}

// base is a schema with tables of different owners and some grants.
func base() api.Schema {
	return api.Schema{Version: 5, Tables: []api.Table{
		{Name: "a", Owner: 1}, {Name: "b"}, {Name: "users", Owner: 7}, {Name: "c", Owner: 1},
	}, Grants: []api.Grant{
		{Role: 1, Table: "b", Bits: api.MayUpdate},
		{Role: 2, Table: "a", Bits: api.MaySelect | api.MayDelete},
		{Role: 2, Table: "gone", Bits: 31},
		{Role: 2, Table: "users", Bits: 31},
		{Role: 3, Table: "a", Bits: api.MayRefer},
		{Role: 7, Table: "a", Bits: api.MayInsert},
	}}
}

func wantList(t *testing.T, name string, got []api.Grant, err api.Errno, want []api.Grant) {
	t.Helper()
	if err != api.OK || !slices.Equal(got, want) {
		t.Errorf("%s: %d, %v, want %v", name, err, got, want)
	}
}

func wantErr(t *testing.T, name string, got []api.Grant, err, want api.Errno) {
	t.Helper()
	if err != want || len(got) > 0 {
		t.Errorf("%s: %d, %v, want %d", name, err, got, want)
	}
}

// invalid are grants with one fault each, and one with all of them.
func invalid() []api.Grant {
	list := []api.Grant{{}, {Role: -1, Table: "A", Bits: 32}}
	for _, role := range []int{0, -1, 8, 9, 256 + 1, math.MaxInt, math.MinInt} {
		list = append(list, api.Grant{Role: role, Table: "a", Bits: 1})
	}
	for _, name := range badNames {
		list = append(list, api.Grant{Role: 1, Table: name, Bits: 1})
	}
	for _, bits := range []int{0, -1, -31, 32, 33, 63, 64, 256 + 1, math.MaxInt, math.MinInt} {
		list = append(list, api.Grant{Role: 1, Table: "a", Bits: bits})
	}
	return list
}

// P10.1: Good and Role.

func TestGood(t *testing.T) {
	for role := 1; role <= 7; role++ {
		for bits := 1; bits <= 31; bits++ {
			for _, name := range goodNames {
				if g := (api.Grant{Role: role, Table: name, Bits: bits}); !grant.Good(g) {
					t.Errorf("%+v is valid", g)
				}
			}
		}
	}
	for _, g := range invalid() {
		if grant.Good(g) {
			t.Errorf("%+v is not valid", g)
		}
	}
}

func TestRole(t *testing.T) {
	for role := -300; role <= 300; role++ {
		if got, want := grant.Role(role), role >= 0 && role <= 7; got != want {
			t.Errorf("%d: %v", role, got)
		}
	}
	for _, role := range []int{math.MaxInt, math.MinInt, 1 << 32, 1<<32 + 1} {
		if grant.Role(role) {
			t.Errorf("%d is no role", role)
		}
	}
}

// P10.1: Sorted.

func TestSorted(t *testing.T) {
	for name, list := range map[string][]api.Grant{
		"none":        nil,
		"empty":       {},
		"one":         {{Role: 7, Table: "z", Bits: 31}},
		"tables":      {{Role: 1, Table: "a", Bits: 2}, {Role: 1, Table: "a0", Bits: 2}, {Role: 1, Table: "aa", Bits: 1}, {Role: 1, Table: "b", Bits: 1}},
		"roles":       {{Role: 1, Table: "a", Bits: 1}, {Role: 2, Table: "a", Bits: 1}, {Role: 7, Table: "a", Bits: 1}},
		"roles first": {{Role: 1, Table: "z", Bits: 9}, {Role: 2, Table: "a", Bits: 3}, {Role: 2, Table: "z", Bits: 3}, {Role: 3, Table: "a", Bits: 1}},
		"most":        most(),
		"full":        full(),
		"base":        base().Grants,
	} {
		if !grant.Sorted(list) {
			t.Errorf("%s: %v is sorted", name, list)
		}
	}
	for name, list := range map[string][]api.Grant{
		"a table twice":       {{Role: 1, Table: "a", Bits: 1}, {Role: 1, Table: "a", Bits: 2}},
		"the same one twice":  {{Role: 1, Table: "a", Bits: 1}, {Role: 1, Table: "a", Bits: 1}},
		"a longer name first": {{Role: 1, Table: "aa", Bits: 1}, {Role: 1, Table: "a", Bits: 1}},
		"tables first":        {{Role: 2, Table: "a", Bits: 1}, {Role: 1, Table: "b", Bits: 1}},
		"roles descend":       {{Role: 3, Table: "a", Bits: 1}, {Role: 2, Table: "a", Bits: 1}},
		"a role again":        {{Role: 1, Table: "a", Bits: 1}, {Role: 2, Table: "a", Bits: 1}, {Role: 1, Table: "b", Bits: 1}},
		"too many":            append(full(), api.Grant{Role: 7, Table: "zz", Bits: 1}),
	} {
		if grant.Sorted(list) {
			t.Errorf("%s: %v is not sorted", name, list)
		}
	}
}

func TestSortedFindsOneFaultAnywhere(t *testing.T) {
	for i := range full() {
		for _, fault := range []func(g *api.Grant){
			func(g *api.Grant) { g.Role = 0 },
			func(g *api.Grant) { g.Role = -g.Role },
			func(g *api.Grant) { g.Role += 8 },
			func(g *api.Grant) { g.Table = "" },
			func(g *api.Grant) { g.Table += " " },
			func(g *api.Grant) { g.Bits = 0 },
			func(g *api.Grant) { g.Bits += 32 },
			func(g *api.Grant) { g.Bits = -1 },
		} {
			list := full()
			fault(&list[i])
			if grant.Sorted(list) {
				t.Errorf("%d: %+v is not valid", i, list[i])
			}
		}
		if i == 0 {
			continue
		}
		swapped, twice := full(), full()
		swapped[i-1], swapped[i] = swapped[i], swapped[i-1]
		twice[i] = twice[i-1]
		if grant.Sorted(swapped) || grant.Sorted(twice) {
			t.Errorf("%d is swapped with the one before, or is that one", i)
		}
	}
}

// P10.1: Put.

func TestPutInsertsInOrder(t *testing.T) {
	whole := full()
	for i, g := range whole {
		got, err := grant.Put(slices.Delete(full(), i, i+1), g)
		wantList(t, fmt.Sprint("at ", i), got, err, whole)
	}
	got, err := grant.Put(nil, whole[3])
	wantList(t, "the only one", got, err, whole[3:4])
	got, err = grant.Put([]api.Grant{{Role: 2, Table: "b", Bits: 1}}, api.Grant{Role: 2, Table: "a", Bits: 31})
	wantList(t, "before it", got, err, []api.Grant{{Role: 2, Table: "a", Bits: 31}, {Role: 2, Table: "b", Bits: 1}})
	got, err = grant.Put([]api.Grant{{Role: 2, Table: "b", Bits: 1}}, api.Grant{Role: 1, Table: "c", Bits: 31})
	wantList(t, "of a lesser role", got, err, []api.Grant{{Role: 1, Table: "c", Bits: 31}, {Role: 2, Table: "b", Bits: 1}})
}

func TestPutAddsBits(t *testing.T) {
	for i, at := range full() {
		for bits := 1; bits <= 31; bits++ {
			want := full()
			want[i].Bits |= bits
			got, err := grant.Put(full(), api.Grant{Role: at.Role, Table: at.Table, Bits: bits})
			wantList(t, fmt.Sprint(bits, " to ", at), got, err, want)
		}
	}
}

func TestPutErrors(t *testing.T) {
	for _, g := range invalid() {
		for _, list := range [][]api.Grant{nil, base().Grants, full()} {
			got, err := grant.Put(list, g)
			wantErr(t, fmt.Sprintf("%+v", g), got, err, api.ErrArg)
		}
	}
	for _, g := range []api.Grant{{Role: 1, Table: "0", Bits: 1}, {Role: 0, Table: "a", Bits: 1}} {
		got, err := grant.Put(full(), g)
		wantErr(t, "also too many", got, err, api.ErrArg)
	}
	for _, g := range []api.Grant{{Role: 1, Table: "zz", Bits: 1}, {Role: 7, Table: "zz", Bits: 31}, {Role: 3, Table: "a0", Bits: 4}} {
		got, err := grant.Put(full(), g)
		wantErr(t, fmt.Sprintf("too many: %+v", g), got, err, api.ErrLong)
		last := full()[:63]
		got, err = grant.Put(last, g)
		if err != api.OK || len(got) != 64 || !grant.Sorted(got) || !slices.Contains(got, g) {
			t.Errorf("the last one that fits: %d, %v", err, got)
		}
	}
}

// P10.1: Take.

func TestTakeRemovesBits(t *testing.T) {
	for i, at := range full() {
		for bits := 1; bits <= 31; bits++ {
			want := full()
			want[i].Bits &= 31 - bits
			if want[i].Bits == 0 {
				want = slices.Delete(want, i, i+1)
			}
			got, err := grant.Take(full(), api.Grant{Role: at.Role, Table: at.Table, Bits: bits})
			wantList(t, fmt.Sprint(bits, " from ", at), got, err, want)
		}
	}
}

func TestTakeOfWhatIsNotThere(t *testing.T) {
	for _, list := range [][]api.Grant{nil, {}, base().Grants, most(), full()} {
		for _, g := range []api.Grant{{Role: 1, Table: "a0", Bits: 31}, {Role: 7, Table: "zz", Bits: 1}, {Role: 4, Table: "users", Bits: 2}} {
			got, err := grant.Take(list, g)
			wantList(t, fmt.Sprintf("%+v", g), got, err, list)
		}
	}
	list := []api.Grant{{Role: 1, Table: "a", Bits: 5}}
	got, err := grant.Take(list, api.Grant{Role: 1, Table: "a", Bits: 2 | 8 | 16})
	wantList(t, "other bits", got, err, list)
	got, err = grant.Take(list, api.Grant{Role: 2, Table: "a", Bits: 5})
	wantList(t, "another role", got, err, list)
	got, err = grant.Take(list, api.Grant{Role: 1, Table: "a", Bits: 31})
	wantList(t, "more than there is", got, err, nil)
}

func TestTakeErrors(t *testing.T) {
	for _, g := range invalid() {
		for _, list := range [][]api.Grant{nil, base().Grants, full()} {
			got, err := grant.Take(list, g)
			wantErr(t, fmt.Sprintf("%+v", g), got, err, api.ErrArg)
		}
	}
}

// P10.1: Without, for all lists.

func TestWithout(t *testing.T) {
	odd := []api.Grant{
		{Role: 9, Table: "b", Bits: 77}, {Role: 1, Table: "a", Bits: 1}, {Table: "", Bits: -1}, {Role: 1, Table: "b"},
		{Role: 9, Table: "b", Bits: 77}, {Role: 1, Table: "ab"}, {Table: "A"}, {Role: 1, Table: "a", Bits: 1}, {Table: "a\x00"}, {},
	}
	pick := func(places ...int) []api.Grant {
		var list []api.Grant
		for _, i := range places {
			list = append(list, odd[i])
		}
		return list
	}
	for table, want := range map[string][]api.Grant{
		"a":     pick(0, 2, 3, 4, 5, 6, 8, 9),
		"b":     pick(1, 2, 5, 6, 7, 8, 9),
		"":      pick(0, 1, 3, 4, 5, 6, 7, 8),
		"A":     pick(0, 1, 2, 3, 4, 5, 7, 8, 9),
		"ab":    pick(0, 1, 2, 3, 4, 6, 7, 8, 9),
		"a\x00": pick(0, 1, 2, 3, 4, 5, 6, 7, 9),
		"c":     odd,
		"abc":   odd,
	} {
		wantList(t, table, grant.Without(odd, table), api.OK, want)
	}
	wantList(t, "all", grant.Without(odd[:1], "b"), api.OK, nil)
	wantList(t, "none", grant.Without(nil, "b"), api.OK, nil)
}

func TestWithoutOfSortedLists(t *testing.T) {
	for _, table := range append([]string{"z3", "gone", ""}, names...) {
		got := grant.Without(full(), table)
		want := slices.DeleteFunc(full(), func(g api.Grant) bool { return g.Table == table })
		wantList(t, table, got, api.OK, want)
		if !grant.Sorted(got) {
			t.Errorf("%s: %v is not sorted", table, got)
		}
	}
	if got := len(grant.Without(full(), "a")); got != 57 {
		t.Errorf("%d without a", got)
	}
}

// P10.1: Owns.

func TestOwns(t *testing.T) {
	s := base()
	for table, owner := range map[string]int{"a": 1, "b": 0, "users": 7, "c": 1} {
		for role := -2; role <= 10; role++ {
			want := role == 0 || role == owner
			if got := grant.Owns(s, role, table); got != want {
				t.Errorf("%d, %s: %v", role, table, got)
			}
		}
	}
	for _, table := range []string{"", "gone", "aa", "A", "user", "users\x00", "d"} {
		for role := -1; role <= 8; role++ {
			if grant.Owns(s, role, table) || grant.Owns(api.Schema{}, role, table) {
				t.Errorf("%d owns %q", role, table)
			}
		}
	}
}

func TestOwnersThatAreNoRoles(t *testing.T) {
	for _, owner := range []int{-1, 8, 9, math.MaxInt, math.MinInt} {
		s := api.Schema{Tables: []api.Table{{Name: "a", Owner: owner}}}
		if grant.Owns(s, owner, "a") || grant.May(s, owner, "a", 1) || grant.May(s, owner, "a", 0) {
			t.Errorf("%d is no role", owner)
		}
		s.Grants = []api.Grant{{Role: owner, Table: "a", Bits: 31}}
		if grant.May(s, owner, "a", 1) {
			t.Errorf("%d is no role, even with a grant", owner)
		}
		s.Grants = []api.Grant{{Role: 1, Table: "a", Bits: 1}}
		if !grant.Owns(s, 0, "a") || !grant.May(s, 0, "a", 31) || !grant.May(s, 1, "a", 1) || grant.Owns(s, 1, "a") {
			t.Errorf("the roles beside the owner %d", owner)
		}
	}
}

// Tables count by their names alone, whether or not they are valid.
func TestInvalidTablesAreTables(t *testing.T) {
	s := api.Schema{Tables: []api.Table{{Name: "No name", Owner: 2}, {Owner: 3}}}
	if !grant.Owns(s, 2, "No name") || !grant.Owns(s, 0, "No name") || grant.Owns(s, 3, "No name") {
		t.Error("a table whose name isn't one")
	}
	if !grant.May(s, 3, "", 31) || !grant.May(s, 0, "", 31) || grant.May(s, 2, "", 1) {
		t.Error("a table with the empty name")
	}
}

func TestTheFirstTableCounts(t *testing.T) {
	s := api.Schema{Tables: []api.Table{{Name: "a", Owner: 2}, {Name: "b", Owner: 4}, {Name: "a", Owner: 3}, {Name: "a"}},
		Grants: []api.Grant{{Role: 5, Table: "a", Bits: 3}}}
	if !grant.Owns(s, 2, "a") || grant.Owns(s, 3, "a") || !grant.Owns(s, 0, "a") {
		t.Error("Owns")
	}
	if !grant.May(s, 2, "a", 31) || grant.May(s, 3, "a", 1) || !grant.May(s, 5, "a", 3) || !grant.May(s, 0, "a", 31) {
		t.Error("May")
	}
}

// P10.1: May.

func TestMay(t *testing.T) {
	s := base()
	granted := map[string]int{"1 b": 4, "2 a": 9, "2 users": 31, "3 a": 16, "7 a": 2}
	for table, owner := range map[string]int{"a": 1, "b": 0, "users": 7, "c": 1} {
		for role := -2; role <= 10; role++ {
			for bits := range 64 {
				has, found := granted[fmt.Sprint(role, " ", table)]
				want := role == 0 || role == owner || found && bits&^has == 0
				if got := grant.May(s, role, table, bits); got != want {
					t.Errorf("%d, %s, %d: %v", role, table, bits, got)
				}
			}
		}
	}
}

func TestMayOfOddBits(t *testing.T) {
	s := base()
	for _, bits := range []int{-1, 32, 33, 31 + 64, 1 << 32, 1<<32 + 1, math.MaxInt, math.MinInt, math.MinInt + 1} {
		if !grant.May(s, 0, "a", bits) || !grant.May(s, 1, "a", bits) {
			t.Errorf("owners may do %d", bits)
		}
		if grant.May(s, 2, "users", bits) || grant.May(s, 2, "a", bits) || grant.May(s, 4, "a", bits) {
			t.Errorf("%d was granted to nobody", bits)
		}
	}
}

func TestMayOfTablesThatAreNotThere(t *testing.T) {
	s := base()
	for role := -1; role <= 8; role++ {
		for bits := range 33 {
			for _, table := range []string{"gone", "", "aa", "A", "user"} {
				if grant.May(s, role, table, bits) || grant.May(api.Schema{Grants: s.Grants}, role, table, bits) {
					t.Errorf("%d, %q, %d", role, table, bits)
				}
			}
		}
	}
}

// Each grant of a full list is found, and none beside it.
func TestMayOfFullLists(t *testing.T) {
	s := api.Schema{Grants: full()}
	for _, name := range append([]string{"gone"}, names...) {
		s.Tables = append(s.Tables, api.Table{Name: name})
	}
	for role := 1; role <= 7; role++ {
		for i, name := range names {
			has := (role*11+i*5)%31 + 1
			for bits := range 32 {
				if got := grant.May(s, role, name, bits); got != (bits&^has == 0) {
					t.Errorf("%d, %s, %d: %v", role, name, bits, got)
				}
			}
		}
		if grant.May(s, role, "gone", 0) || grant.May(s, role, "gone", 1) {
			t.Errorf("%d has no grant for that table", role)
		}
	}
}
