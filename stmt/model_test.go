package stmt_test

import (
	"math"
	"math/rand"
	"regexp"
	"strconv"
	"strings"
	"testing"

	"mortmain/api"
	"mortmain/stmt"
	"mortmain/value"
)

// A second reading of the textual form, by patterns of words.

var (
	numberForm = regexp.MustCompile(`\A(0|-?[1-9][0-9]*)\z`)
	columnForm = regexp.MustCompile(`\A([^ :]*):([ift])(n?)(u?)(>([^ :]+):([rcs]))?\z`)
	checkForm  = regexp.MustCompile(`\A\?([0-9])([<=!])((?s).*)\z`)
)

func modelNumber(word string) (int, bool) {
	n, err := strconv.ParseInt(word, 10, 64)
	return int(n), err == nil && numberForm.MatchString(word)
}

func modelValue(word string) (api.Value, bool) {
	if n, ok := modelNumber(word); ok {
		return value.Int(n), true
	}
	switch {
	case word == "null":
		return api.Value{}, true
	case strings.HasPrefix(word, "'"):
		return value.Text(word[1:]), len(word) <= 25
	case strings.HasPrefix(word, "f"):
		f, err := strconv.ParseFloat(word[1:], 64)
		if f == 0 {
			f = 0 // one zero
		}
		return value.Float(f), err == nil && value.Show(value.Float(f)) == word
	}
	return api.Value{}, false
}

func modelCheck(word string) (api.Expr, bool) {
	m := checkForm.FindStringSubmatch(word)
	if m == nil {
		return api.Expr{}, false
	}
	v, ok := modelValue(m[3])
	build := map[string]func(int, api.Value) api.Expr{"<": less, "=": equal, "!": notLess}[m[2]]
	return build(int(m[1][0]-'0'), v), ok
}

func modelColumn(word string) (api.Column, bool) {
	m := columnForm.FindStringSubmatch(word)
	if m == nil {
		return api.Column{}, false
	}
	return api.Column{
		Name: m[1],
		Kind: map[string]int{"i": 1, "f": 2, "t": 3}[m[2]], NotNull: m[3] != "", Unique: m[4] != "",
		Ref: m[6], Del: map[string]int{"r": 0, "c": 1, "s": 2}[m[7]],
	}, true
}

func modelTable(words []string) (api.Table, bool) {
	t := api.Table{Name: words[0]}
	for _, w := range words[1:] {
		if e, ok := modelCheck(w); ok {
			t.Checks = append(t.Checks, e)
		} else if c, ok := modelColumn(w); ok && t.Checks == nil {
			t.Cols = append(t.Cols, c)
		} else {
			return t, false
		}
	}
	return t, true
}

// modelParse returns the statement and true, or false if there is none.
func modelParse(text string) (api.Stmt, bool) {
	words := strings.Split(text, " ")
	kind := map[string]int{"insert": 1, "delete": 2, "update": 3, "get": 4, "range": 5, "create": 6, "drop": 7, "grant": 8, "revoke": 9}[words[0]]
	if kind == 0 || len(words) < 2 {
		return api.Stmt{}, false
	}
	s, rest := api.Stmt{Kind: kind}, words[2:]
	if kind == api.Create {
		t, ok := modelTable(words[1:])
		s.Def = t
		return s, ok
	}
	s.Table = words[1]
	if len(s.Table) > 12 {
		return s, false
	}
	// What a word is: v a value, c a column, n a number.
	form := map[int]string{2: "v", 4: "v", 3: "vcv", 5: "vv", 8: "nn", 9: "nn"}[kind]
	if kind == api.Insert && len(rest) <= 6 {
		form = strings.Repeat("v", len(rest))
	}
	if len(rest) != len(form) {
		return s, false
	}
	var vals []api.Value
	var numbers []int
	for i, w := range rest {
		v, goodValue := modelValue(w)
		n, goodNumber := modelNumber(w)
		switch {
		case form[i] == 'v' && goodValue:
			vals = append(vals, v)
		case form[i] == 'n' && goodNumber:
			numbers = append(numbers, n)
		case form[i] == 'c' && len(w) <= 12:
			s.Col = w
		default:
			return s, false
		}
	}
	switch kind {
	case api.Insert:
		s.Vals = vals
	case api.Delete, api.Get:
		s.Key = vals[0]
	case api.Update:
		s.Key, s.Val = vals[0], vals[1]
	case api.Range:
		s.Key, s.Hi = vals[0], vals[1]
	case api.GrantTo, api.Revoke:
		s.Role, s.Bits = numbers[0], numbers[1]
	}
	return s, true
}

// written is the textual form of a parsed statement, with its checks.
func written(s api.Stmt) string {
	text := stmt.Show(s)
	for _, e := range s.Def.Checks {
		sign := map[int]string{api.Less: "<", api.Equal: "=", api.Not: "!"}[e.Op]
		if e.Op == api.Not {
			e = e.Args[0]
		}
		text += " ?" + strconv.Itoa(e.Args[0].Col) + sign + value.Show(e.Args[1].Val)
	}
	return text
}

// agree compares Parse with the model, and reports whether there is a statement.
func agree(t *testing.T, text string) bool {
	t.Helper()
	want, ok := modelParse(text)
	got, err := stmt.Parse(text)
	if !ok {
		want = api.Stmt{}
	}
	if (err == api.OK) != ok || err != api.OK && err != api.ErrForm || !same(got, want) {
		t.Fatalf("%q: %d, %+v, want %v, %+v", text, err, got, ok, want)
	}
	if ok && (!stmt.Good(got) || written(got) != text) {
		t.Fatalf("%q: valid: %v, written as %q", text, stmt.Good(got), written(got))
	}
	return ok
}

// P12.1, P12.2: Parse, on all short words and many texts.

// forShort calls f for all strings of at most n bytes of an alphabet.
func forShort(alphabet string, n int, f func(string)) {
	var extend func(prefix string)
	extend = func(prefix string) {
		f(prefix)
		if len(prefix) == n {
			return
		}
		for i := range len(alphabet) {
			extend(prefix + alphabet[i:i+1])
		}
	}
	extend("")
}

func TestParseOfAllShortWordsOfCreate(t *testing.T) {
	n := 0
	count := func(text string) {
		if agree(t, text) {
			n++
		}
	}
	forShort("?0<':in> ", 5, func(s string) { count("create a " + s) })
	forShort("inu>b:r", 5, func(s string) { count("create a c:i" + s) })
	forShort("05-'f:i?!= ", 4, func(s string) { count("create a id:i ?0=" + s) })
	forShort("?1!=5 :", 4, func(s string) { count("create a id:i " + s + "=5") })
	for b := range 256 {
		c := string([]byte{byte(b)})
		for _, text := range []string{"create a x#", "create a x#i", "create a x:#", "create a x:i#", "create a x:in#", "create a x:i#b:r", "create a x:i>b#r", "create a x:i>b:#", "create a x:i>#:s", "create a #:i", "create #", "create a#x:i", "create a #0<5", "create a ?#<5", "create a ?0#5", "create a ?0<#", "create a ?0='#", "create a ?0='#x:i", "create a ?0<5#", "create#a", "drop#a", "drop #", "get a '#", "get a #", "get a#1", "update a 1 # 2", "grant a 1 #", "grant a # 1", "insert a 1#2", "insert a 1 2#", "#drop a", "drop a#"} {
			count(strings.ReplaceAll(text, "#", c))
		}
	}
	if n < 1000 {
		t.Errorf("only %d of them are statements", n)
	}
}

func TestParseOfAllShortStatements(t *testing.T) {
	for _, word := range []string{"insert", "delete", "update", "get", "range", "create", "drop", "grant", "revoke", "other", ""} {
		forShort(" a'1-0f", 6, func(s string) { agree(t, word+s) })
	}
}

var someWords = strings.Split("insert delete update get range create drop grant revoke|insert|create|a|b|users|abcdefghijkl|abcdefghijklm|null|0|1|-5|01|9223372036854775807|9223372036854775808|f0.5|fNaN|f-Inf|f1.0|'|'x|'xyz:|'"+strings.Repeat("y", 24)+"|'"+strings.Repeat("y", 25)+"|id:in|b:t|c:f|up:iu>a:c|x:tnu>b:s|:i|x:i>y:r|x:i>:r|x:un|?0<5|?1=f0.5|?2!'x|?3=null|?0<05|?0<5:i||", "|")

func TestParseOfRandomTexts(t *testing.T) {
	random := rand.New(rand.NewSource(1))
	n := 0
	for range 300000 {
		words := []string{strings.Fields(someWords[0])[random.Intn(9)]}
		for range random.Intn(9) {
			words = append(words, someWords[1+random.Intn(len(someWords)-1)])
		}
		if agree(t, strings.Join(words, " ")) {
			n++
		}
	}
	if n < 10000 {
		t.Errorf("only %d of them are statements", n)
	}
}

func TestParseOfChangedTexts(t *testing.T) {
	const bytes = " ?:><=!'019-+.efinutrcsN\x00\xff\n"
	random := rand.New(rand.NewSource(2))
	stay := 0
	for range 60000 {
		text := written(randomStmt(random, true))
		if strings.Contains(text, "?") && random.Intn(2) == 0 {
			text += " ?" + string(bytes[10+random.Intn(3)]) + string(bytes[4+random.Intn(4)]) + value.Show(randomValue(random))
		}
		for range 1 + random.Intn(3) {
			i, b := random.Intn(len(text)), string(bytes[random.Intn(len(bytes))])
			switch random.Intn(4) {
			case 0:
				text = text[:i] + b + text[i:]
			case 1:
				text = text[:i] + text[i+1:] + b
			case 2:
				text = text[:i] + b + text[i+1:]
			default:
				text = text[:i+1] + text[i:]
			}
		}
		if agree(t, text) {
			stay++
		}
	}
	if stay < 5000 {
		t.Errorf("only %d of them are statements", stay)
	}
}

// P12.2: statements are shown and parsed back.

func randomName(random *rand.Rand, bytes string, most int) string {
	name := make([]byte, random.Intn(most+1))
	for i := range name {
		name[i] = bytes[random.Intn(len(bytes))]
	}
	return string(name)
}

func randomValue(random *rand.Rand) api.Value {
	switch random.Intn(6) {
	case 0:
		return value.Int(random.Intn(20) - 10)
	case 1:
		return value.Int(int(random.Uint64()))
	case 2:
		return value.Float(math.Float64frombits(random.Uint64()))
	case 3:
		return value.Float([]float64{0, 0.5, 1e6, 1e21, 1e-7, math.Inf(1), math.Inf(-1), math.NaN(), -3}[random.Intn(9)])
	case 4:
		return value.Text(randomName(random, "ab?>'\x00\xff\n0", 24))
	}
	return api.Value{}
}

func randomColumn(random *rand.Rand, bytes string) api.Column {
	c := api.Column{Name: randomName(random, bytes, 15), Kind: 1 + random.Intn(3), NotNull: random.Intn(2) == 0, Unique: random.Intn(2) == 0}
	if ref := randomName(random, bytes, 15); random.Intn(2) == 0 && ref != "" {
		c.Ref, c.Del = ref, random.Intn(3)
	}
	return c
}

// randomStmt is a valid statement as P12.2 has it; with odd names, those in a
// Create may contain > and ?, too.
func randomStmt(random *rand.Rand, odd bool) api.Stmt {
	s := api.Stmt{Kind: 1 + random.Intn(9)}
	if s.Kind == api.Create {
		bytes := "abyz_09'\x00\xff\nABn"
		if odd {
			bytes += ">?"
		}
		s.Def.Name = randomName(random, bytes, 15)
		for range random.Intn(9) {
			s.Def.Cols = append(s.Def.Cols, randomColumn(random, bytes))
		}
		return s
	}
	s.Table = randomName(random, "abz_09>?'\x00\xff\n", 12)
	switch s.Kind {
	case api.Insert:
		for range random.Intn(7) {
			s.Vals = append(s.Vals, randomValue(random))
		}
	case api.Delete, api.Get:
		s.Key = randomValue(random)
	case api.Update:
		s.Key, s.Col, s.Val = randomValue(random), randomName(random, "abz_09>?'\x00\xff\n", 12), randomValue(random)
	case api.Range:
		s.Key, s.Hi = randomValue(random), randomValue(random)
	case api.GrantTo, api.Revoke:
		s.Role, s.Bits = random.Intn(20)-10, int(random.Uint64())
	}
	return s
}

func TestStatementsAreParsedBack(t *testing.T) {
	random := rand.New(rand.NewSource(3))
	for i := range 100000 {
		s := randomStmt(random, i%2 == 0)
		if !stmt.Good(s) {
			t.Fatalf("%+v isn't valid", s)
		}
		text := stmt.Show(s)
		if got, err := stmt.Parse(text); err != api.OK || !same(got, s) {
			t.Fatalf("%q: %d, %+v, want %+v", text, err, got, s)
		}
	}
}

func TestAllColumnsAreParsedBack(t *testing.T) {
	n := 0
	for _, c := range allColumns() {
		s := create(api.Table{Name: "t", Cols: []api.Column{{Name: "id", Kind: api.Int, NotNull: true}, c, c}})
		text := stmt.Show(s)
		if text == "" || c.Ref == "" && c.Del != 0 {
			continue
		}
		n++
		if got, err := stmt.Parse(text); err != api.OK || !same(got, s) {
			t.Errorf("%q: %d, %+v, want %+v", text, err, got, s)
		}
	}
	if n != 3*4*(1+3) {
		t.Errorf("%d columns", n)
	}
}
