package stmt_test

import (
	"math"
	"reflect"
	"strings"
	"testing"

	"mortmain/api"
	"mortmain/stmt"
	"mortmain/value"
)

// same reports whether two statements are equal, where nil and empty slices are.
func same(a, b api.Stmt) bool {
	return reflect.DeepEqual(tidy(a), tidy(b))
}

func tidy(s api.Stmt) api.Stmt {
	s.Vals = append([]api.Value{}, s.Vals...)
	s.Def.Cols = append([]api.Column{}, s.Def.Cols...)
	s.Def.Checks = tidyExprs(s.Def.Checks)
	return s
}

func tidyExprs(list []api.Expr) []api.Expr {
	out := append([]api.Expr{}, list...)
	for i := range out {
		out[i].Args = tidyExprs(out[i].Args)
	}
	return out
}

func wantParsed(t *testing.T, text string, want api.Stmt) {
	t.Helper()
	got, err := stmt.Parse(text)
	if err != api.OK || !same(got, want) || !stmt.Good(got) {
		t.Errorf("%q: %d, %+v, want %+v", text, err, got, want)
	}
}

func wantNone(t *testing.T, texts ...string) {
	t.Helper()
	for _, text := range texts {
		got, err := stmt.Parse(text)
		if err != api.ErrForm || !reflect.DeepEqual(got, api.Stmt{}) {
			t.Errorf("%q: %d, %+v", text, err, got)
		}
	}
}

func cmpExpr(op, col int, v api.Value) api.Expr {
	return api.Expr{Op: op, Args: []api.Expr{{Op: api.Col, Col: col}, {Op: api.Lit, Val: v}}}
}

func less(col int, v api.Value) api.Expr { return cmpExpr(api.Less, col, v) }

func equal(col int, v api.Value) api.Expr { return cmpExpr(api.Equal, col, v) }

func notLess(col int, v api.Value) api.Expr {
	return api.Expr{Op: api.Not, Args: []api.Expr{less(col, v)}}
}

// P12.1: Parse.

func TestParse(t *testing.T) {
	one, x := value.Int(1), value.Text("x")
	for text, want := range map[string]api.Stmt{
		"insert a 1 'x null":        {Kind: api.Insert, Table: "a", Vals: []api.Value{one, x, {}}},
		"insert a":                  {Kind: api.Insert, Table: "a"},
		"insert ":                   {Kind: api.Insert},
		"insert  1":                 {Kind: api.Insert, Vals: []api.Value{one}},
		"insert a '":                {Kind: api.Insert, Table: "a", Vals: []api.Value{value.Text("")}},
		"insert a ' '":              {Kind: api.Insert, Table: "a", Vals: []api.Value{value.Text(""), value.Text("")}},
		"insert a 'x 1":             {Kind: api.Insert, Table: "a", Vals: []api.Value{x, one}}, // not the text "x 1"
		"insert a 1 1 1 1 1 null":   {Kind: api.Insert, Table: "a", Vals: []api.Value{one, one, one, one, one, {}}},
		"insert insert 'insert":     {Kind: api.Insert, Table: "insert", Vals: []api.Value{value.Text("insert")}},
		"delete a 'k":               {Kind: api.Delete, Table: "a", Key: value.Text("k")},
		"delete  null":              {Kind: api.Delete},
		"get a f+Inf":               {Kind: api.Get, Table: "a", Key: value.Float(math.Inf(1))},
		"get a:b '>?:\x00\xff\n":    {Kind: api.Get, Table: "a:b", Key: value.Text(">?:\x00\xff\n")},
		"get abcdefghijkl fNaN":     {Kind: api.Get, Table: "abcdefghijkl", Key: value.Float(math.NaN())},
		"update a 1 c 'x":           {Kind: api.Update, Table: "a", Key: one, Col: "c", Val: x},
		"update a 'x null null":     {Kind: api.Update, Table: "a", Key: x, Col: "null"},
		"update  null  null":        {Kind: api.Update},
		"update a 1  1":             {Kind: api.Update, Table: "a", Key: one, Val: one},
		"update a 1 abcdefghijkl 1": {Kind: api.Update, Table: "a", Key: one, Col: "abcdefghijkl", Val: one},
		"range a -9223372036854775808 9223372036854775807": {Kind: api.Range, Table: "a", Key: value.Int(math.MinInt), Hi: value.Int(math.MaxInt)},
		"range a 'x 1":                         {Kind: api.Range, Table: "a", Key: x, Hi: one},
		"drop a":                               {Kind: api.Drop, Table: "a"},
		"drop ":                                {Kind: api.Drop},
		"grant a 2 31":                         {Kind: api.GrantTo, Table: "a", Role: 2, Bits: 31},
		"grant  0 0":                           {Kind: api.GrantTo},
		"revoke a -1 9223372036854775807":      {Kind: api.Revoke, Table: "a", Role: -1, Bits: math.MaxInt},
		"revoke a -9223372036854775808 -1":     {Kind: api.Revoke, Table: "a", Role: math.MinInt, Bits: -1},
		"get a '" + strings.Repeat("\xff", 24): {Kind: api.Get, Table: "a", Key: value.Text(strings.Repeat("\xff", 24))},
	} {
		wantParsed(t, text, want)
		if got := stmt.Show(want); got != text {
			t.Errorf("%q is shown as %q", text, got)
		}
	}
}

func TestParseReturnsErrForm(t *testing.T) {
	wantNone(t,
		// Words of kinds.
		"", " ", "  ", "\n", "what a", " insert a", "Insert a", "INSERT a 1", "inser a", "inserts a", "granted a 1 1", "insert\ta 1", "grantto a 1 1", "1", "1 a", "0 a", "null a",
		// A word is missing.
		"insert", "delete", "update", "get", "range", "create", "drop", "grant", "revoke",
		"delete a", "get a", "get ", "range a", "range a 1", "update a", "update a 1", "update a 1 c", "update a 1 c1", "grant a", "grant a 1", "revoke a", "revoke a 1", "revoke ",
		// There is one too many, or a blank.
		"delete a 1 2", "get a 1 2", "get a 1 ", "get  a 1", "get a  1", "range a 1 2 3", "range a 1 2 ", "range a 1  2", "update a 1 c 2 3", "update a 1 c 2 ", "update a 1  c 2", "update a  1 c 2",
		"drop a 1", "drop a ", "drop  a", "drop  ", "grant a 1 2 3", "grant a 1 2 ", "grant a 1  2", "grant  a 1 2", "insert a  1", "insert a 1 ", "insert a ", "insert  ", "insert a 1  2", "insert  a 1",
		// A blank is within a text.
		"get a 'x y", "get a 'x ", "get a ' x", "insert a 'x y", "insert a 'x ", "update a 'x y c 1", "update a 1 c 'x y", "range a 'x y 'z",
		// No values.
		"insert a 01", "insert a +1", "insert a -0", "insert a 1.5", "insert a 0x1", "insert a 1_0", "insert a 9223372036854775808", "insert a -9223372036854775809", "insert a Null", "insert a nul", "insert a x", "insert a f", "insert a f1.0", "insert a f-0", "insert a fnan", "insert a f1e6", "insert a -",
		"get a 1x", "get a \"x\"", "range a 1 x", "range a x 1", "update a x c 1", "update a 1 c x", "delete a f",
		"get a '"+strings.Repeat("x", 25), "update a 1 c '"+strings.Repeat("x", 25),
		// No decimal digits.
		"grant a 1 x", "grant a x 1", "grant a 01 1", "grant a 1 -0", "grant a +1 1", "grant a 1 null", "grant a null 1", "grant a 1 f1", "grant a f1 1", "grant a 1 '1", "grant a '1 1", "grant a ' '", "revoke a 1 9223372036854775808", "revoke a 1 0x1", "revoke a  1",
		// Too long, too many.
		"insert abcdefghijklm 1", "delete abcdefghijklm 1", "get abcdefghijklm 1", "update abcdefghijklm 1 c 1", "update a 1 abcdefghijklm 1", "range abcdefghijklm 1 1", "drop abcdefghijklm", "grant abcdefghijklm 1 1", "revoke abcdefghijklm 1 1",
		"insert a 1 2 3 4 5 6 7", "insert a 1 2 3 4 5 6 x", "insert a 1 2 3 4 5 6 ", "insert a 1 2 3 4 5 6 7 8",
	)
}

func TestParseOfCreate(t *testing.T) {
	id := api.Column{Name: "id", Kind: api.Int, NotNull: true}
	long := strings.Repeat("x", 99)
	for text, want := range map[string]api.Table{
		"create ":                          {},
		"create a":                         {Name: "a"},
		"create  id:in":                    {Cols: []api.Column{id}},
		"create a id:in b:tu up:iu>a:c":    {Name: "a", Cols: []api.Column{id, {Name: "b", Kind: api.Text, Unique: true}, {Name: "up", Kind: api.Int, Unique: true, Ref: "a", Del: api.Cascade}}},
		"create a id:in b:fnu>c:s c:t>d:r": {Name: "a", Cols: []api.Column{id, {Name: "b", Kind: api.Float, NotNull: true, Unique: true, Ref: "c", Del: api.SetNull}, {Name: "c", Kind: api.Text, Ref: "d"}}},
		// Neither the table nor the columns are checked.
		"create " + long + ":> " + long + ":i>" + long + ":r": {Name: long + ":>", Cols: []api.Column{{Name: long, Kind: api.Int, Ref: long}}},
		"create a" + strings.Repeat(" id:in", 7):              {Name: "a", Cols: []api.Column{id, id, id, id, id, id, id}},
		// Names of columns and tables that are referred to.
		"create a :i":                     {Name: "a", Cols: []api.Column{{Kind: api.Int}}},
		"create a a>b:i >:t \x00\xff\n:f": {Name: "a", Cols: []api.Column{{Name: "a>b", Kind: api.Int}, {Name: ">", Kind: api.Text}, {Name: "\x00\xff\n", Kind: api.Float}}},
		"create a a:i>>:r b:i>>b>?:c":     {Name: "a", Cols: []api.Column{{Name: "a", Kind: api.Int, Ref: ">"}, {Name: "b", Kind: api.Int, Ref: ">b>?", Del: api.Cascade}}},
		"create a:i id:in":                {Name: "a:i", Cols: []api.Column{id}},
		// What is almost a check is the name of a column.
		"create a ?:i ?0:i ?0<:i ?0<5:i ?x<5:i ?0<=5:i ?00<5:i ?0>5:i": {Name: "a", Cols: []api.Column{{Name: "?", Kind: 1}, {Name: "?0", Kind: 1}, {Name: "?0<", Kind: 1}, {Name: "?0<5", Kind: 1}, {Name: "?x<5", Kind: 1}, {Name: "?0<=5", Kind: 1}, {Name: "?00<5", Kind: 1}, {Name: "?0>5", Kind: 1}}},
		// The first word is the name of the table, whatever it looks like.
		"create ?0<5 id:in": {Name: "?0<5", Cols: []api.Column{id}},
	} {
		wantParsed(t, text, create(want))
		if got := stmt.Show(create(want)); got != text {
			t.Errorf("%q is shown as %q", text, got)
		}
	}
}

func TestParseOfChecks(t *testing.T) {
	id := api.Column{Name: "id", Kind: api.Int, NotNull: true}
	for text, want := range map[string]api.Table{
		"create a id:in ?0<5":               {Name: "a", Cols: []api.Column{id}, Checks: []api.Expr{less(0, value.Int(5))}},
		"create a id:in ?1<f9 ?0!3 ?1=fNaN": {Name: "a", Cols: []api.Column{id}, Checks: []api.Expr{less(1, value.Float(9)), notLess(0, value.Int(3)), equal(1, value.Float(math.NaN()))}},
		"create a ?9=null ?8!'":             {Name: "a", Checks: []api.Expr{equal(9, api.Value{}), notLess(8, value.Text(""))}},
		"create  ?0<'=!<":                   {Checks: []api.Expr{less(0, value.Text("=!<"))}},
		"create a ?0<-9223372036854775808":  {Name: "a", Checks: []api.Expr{less(0, value.Int(math.MinInt))}},
		// It has also the form of a column.
		"create a id:in ?0<':i ?0='a:tnu ?0!'b:i>c:r": {Name: "a", Cols: []api.Column{id}, Checks: []api.Expr{less(0, value.Text(":i")), equal(0, value.Text("a:tnu")), notLess(0, value.Text("b:i>c:r"))}},
		"create a" + strings.Repeat(" ?0<1", 5):       {Name: "a", Checks: []api.Expr{less(0, value.Int(1)), less(0, value.Int(1)), less(0, value.Int(1)), less(0, value.Int(1)), less(0, value.Int(1))}},
	} {
		wantParsed(t, text, create(want))
		if got, plain := stmt.Show(create(want)), strings.Split(text, " ?")[0]; got != plain {
			t.Errorf("%q is shown as %q", text, got)
		}
	}
	for digit := range 10 {
		d := string(rune('0' + digit))
		for _, v := range goodValues() {
			word := value.Show(v)
			if strings.Contains(word, " ") {
				continue
			}
			wantParsed(t, "create a ?"+d+"<"+word+" ?"+d+"="+word+" ?"+d+"!"+word,
				create(api.Table{Name: "a", Checks: []api.Expr{less(digit, v), equal(digit, v), notLess(digit, v)}}))
		}
	}
}

func TestParseOfCreateReturnsErrForm(t *testing.T) {
	for _, word := range []string{
		"", "id", ":", "id:", "id:x", "id:I", "id:ii", "id:in ", " id:in", "id: in", "id :in", "id::i", "id:i:", "id:i:r",
		// n before u, each of them once.
		"id:iun", "id:inn", "id:iuu", "id:inun", "id:n", "id:u", "id:nu", "id:ni", "id:unique",
		// References.
		"id:i>", "id:i>b", "id:inu>b", "id:i>b:", "id:i>b:x", "id:i>b:R", "id:i>b:rr", "id:i>b:rc", "id:i>b:rcs", "id:i>b:r:", "id:i>b:c:r", "id:i>b::r", "id:i>:r", "id:>b:r", "id:i>b:r>", "id:i>b:rn", "id:i>b:rnu", "id:i>bn", "id:i>b c:r", "id:in>b:r>c:r",
		// Checks.
		"?", "?0", "?0<", "?0<05", "?0<x", "?0>5", "?0<=5", "?<5", "?x<5", "?00<5", "?-1<5", "??0<5", "0<5", "?0 <5", "?0< 5", "?0<5 ", "?0!=5", "?0<f1.0", "?0<Null", "?:<5", "?/<5", "?0<'a b", "?0<'" + strings.Repeat("x", 25), "?\xff<5",
		// A column follows a check.
		"?0<5 id:i", "?0<5 ?0<5 id:i", "?0<5 ?0<5:i", "?0<5 id:i ?0<5", "?0<5 ", "?0<5  ?0<5",
	} {
		wantNone(t, "create a "+word, "create a id:in "+word, "create a id:in b:t "+word+" ?0<6", "create a ?0<6 "+word)
	}
	wantNone(t, "create", "Create a", "create  ", "create a ", "create  a", "create a  id:in", "create  id", "create a id:in ")
}

// All that is parsed is new: what a caller does to it is seen nowhere else.
func TestParsedStatementsShareNothing(t *testing.T) {
	text := "create a id:in ?0<1 ?0<1 ?0!1 ?0!1"
	first, _ := stmt.Parse(text)
	second, _ := stmt.Parse(text)
	expected := tidy(second)
	first.Def.Cols[0].Name = "x"
	_ = append(first.Def.Checks[2].Args, api.Expr{Op: 9})
	for i := range first.Def.Checks {
		before := tidyExprs(first.Def.Checks)
		before[i].Args[0] = api.Expr{Op: 77}
		first.Def.Checks[i].Args[0] = api.Expr{Op: 77}
		if !reflect.DeepEqual(tidyExprs(first.Def.Checks), tidyExprs(before)) {
			t.Errorf("check %d shares memory with another one", i)
		}
	}
	if third, _ := stmt.Parse(text); !same(second, expected) || !same(third, expected) {
		t.Error("statements share memory")
	}
	a, _ := stmt.Parse("insert a 1 2")
	a.Vals[0] = value.Int(7)
	wantParsed(t, "insert a 1 2", api.Stmt{Kind: api.Insert, Table: "a", Vals: []api.Value{value.Int(1), value.Int(2)}})
}

// Long texts are parsed, or not, at once.
func TestParseOfLongTexts(t *testing.T) {
	const n = 1 << 20
	wantNone(t, strings.Repeat(" ", n), strings.Repeat("x", n), "insert a"+strings.Repeat(" 1", n), "insert a "+strings.Repeat("1", n), "get a '"+strings.Repeat("x", n), "get a f"+strings.Repeat("0", n), "create a"+strings.Repeat(" ", n), "drop"+strings.Repeat(" a", n))
	name := strings.Repeat("x", n)
	wantParsed(t, "create "+name+" "+name+":i>"+name+":r", create(api.Table{Name: name, Cols: []api.Column{{Name: name, Kind: api.Int, Ref: name}}}))
}
