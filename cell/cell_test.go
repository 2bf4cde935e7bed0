package cell_test

import (
	"cmp"
	"encoding/binary"
	"fmt"
	"hash/crc32"
	"math"
	"math/rand"
	"slices"
	"strings"
	"testing"

	"mortmain/api"
	"mortmain/cell"
	"mortmain/value"
)

var (
	longest = strings.Repeat("a", 24)
	tooLong = strings.Repeat("a", 25)
)

// names are valid texts, also such that no table may have.
var names = []string{
	"", "a", "b", "ab", "A", "\x00", "\x00\x00", "\x00\xff", "a\x00", "a\x00\x00", "a\x01", "\x03a", "\xff", "\xff\xff", "\xfe", "\xef\xbf\xbd",
	"users", "r", "\x03a\x00\x00", longest, strings.Repeat("\x00", 24), strings.Repeat("\xff", 24),
}

var badNames = []string{tooLong, strings.Repeat("\x00", 25), strings.Repeat("b", 1000)}

// ascending holds valid values in the order of layer 3.
var ascending = []api.Value{
	{},
	value.Int(math.MinInt), value.Int(-256), value.Int(-1), value.Int(0), value.Int(1), value.Int(255), value.Int(256), value.Int(math.MaxInt),
	value.Float(math.Inf(-1)), value.Float(-1), value.Float(0), value.Float(0.5), value.Float(math.Inf(1)), value.Float(math.NaN()),
	value.Text(""), value.Text("\x00"), value.Text("\x00\x00"), value.Text("\x00\xff"), value.Text("a"), value.Text("a\x00"), value.Text("aa"),
	value.Text(longest), value.Text("b"), value.Text("\xff"),
}

var badValues = []api.Value{
	{Num: 1}, {Text: "a"}, {Kind: api.Int, Text: "a"}, {Kind: api.Float, Num: math.MinInt}, {Kind: api.Float, Num: -1},
	{Kind: api.Float, Num: 1, Text: "a"}, {Kind: api.Text, Num: 1, Text: "a"}, value.Text(tooLong), {Kind: 4}, {Kind: -1}, {Kind: 259, Text: "a"},
}

// textBytes and valueBytes say again, by themselves, what a component contributes.

func textBytes(s string) string {
	if len(s) > 24 {
		return ""
	}
	b := []byte{3}
	for i := range len(s) {
		b = append(b, s[i])
		if s[i] == 0 {
			b = append(b, 255)
		}
	}
	return string(append(b, 0, 0))
}

func valueBytes(v api.Value) string {
	if !value.Good(v) {
		return ""
	}
	switch v.Kind {
	case api.Int:
		return "\x01" + string(binary.BigEndian.AppendUint64(nil, uint64(v.Num)+1<<63))
	case api.Float:
		u := uint64(v.Num)
		if v.Num < 0 {
			u = ^u
		} else {
			u += 1 << 63
		}
		return "\x02" + string(binary.BigEndian.AppendUint64(nil, u))
	case api.Text:
		return textBytes(v.Text)
	}
	return "\x00"
}

func modelKey(p cell.Place) string {
	table, key := textBytes(p.Table), valueBytes(p.Key)
	switch p.Kind {
	case 'r':
		return "r" + table + key
	case 'u':
		return "u" + table + textBytes(p.Col) + key
	case 'f':
		return "f" + table + key + textBytes(p.From) + textBytes(p.Col) + valueBytes(p.By)
	}
	return "t" + table
}

// keyOf returns the key of a place by the call for its kind.
func keyOf(p cell.Place) string {
	switch p.Kind {
	case cell.Row:
		return cell.OfRow(p.Table, p.Key)
	case cell.Uniq:
		return cell.OfUniq(p.Table, p.Col, p.Key)
	case cell.Ref:
		return cell.OfRef(p.Table, p.Key, p.From, p.Col, p.By)
	}
	return cell.OfTable(p.Table)
}

func row(table string, key api.Value) cell.Place {
	return cell.Place{Kind: 'r', Table: table, Key: key}
}

func uniq(table, col string, v api.Value) cell.Place {
	return cell.Place{Kind: 'u', Table: table, Col: col, Key: v}
}

func ref(table string, key api.Value, from, col string, by api.Value) cell.Place {
	return cell.Place{Kind: 'f', Table: table, Key: key, From: from, Col: col, By: by}
}

func whole(table string) cell.Place { return cell.Place{Kind: 't', Table: table} }

// validPlaces returns places of all kinds with valid components, each of them in each position.
func validPlaces() []cell.Place {
	var all []cell.Place
	for _, a := range names {
		all = append(all, whole(a))
		for _, v := range ascending {
			all = append(all, row(a, v))
		}
		for _, b := range names {
			for _, v := range ascending {
				all = append(all, uniq(a, b, v))
			}
			all = append(all, ref(a, value.Int(1), b, "c", value.Text("x")), ref("c", value.Text("x"), a, b, value.Int(1)))
		}
	}
	for _, v := range ascending {
		for _, w := range ascending {
			all = append(all, ref("users", v, "posts", "by", w), ref("", v, "", "", w), ref("a\x00", v, "\x00", "\xff", w))
		}
	}
	return all
}

func randomName(r *rand.Rand) string {
	s := make([]byte, r.Intn(25))
	for i := range s {
		s[i] = []byte{0, 0, 1, 3, 'a', 254, 255, byte(r.Intn(256))}[r.Intn(8)]
	}
	return string(s)
}

func randomValue(r *rand.Rand) api.Value {
	switch r.Intn(4) {
	case 0:
		return value.Int(int(r.Uint64()) >> r.Intn(64))
	case 1:
		return value.Float(math.Float64frombits(r.Uint64()))
	case 2:
		return value.Text(randomName(r))
	}
	return api.Value{}
}

func randomPlace(r *rand.Rand) cell.Place {
	switch r.Intn(4) {
	case 0:
		return row(randomName(r), randomValue(r))
	case 1:
		return uniq(randomName(r), randomName(r), randomValue(r))
	case 2:
		return ref(randomName(r), randomValue(r), randomName(r), randomName(r), randomValue(r))
	}
	return whole(randomName(r))
}

// P7.1: the keys.

func TestKinds(t *testing.T) {
	if cell.Row != 114 || cell.Uniq != 117 || cell.Ref != 102 || cell.Whole != 116 {
		t.Error(cell.Row, cell.Uniq, cell.Ref, cell.Whole)
	}
}

func TestKnownKeys(t *testing.T) {
	for _, c := range []struct{ got, want string }{
		{cell.OfTable("a"), "t\x03a\x00\x00"},
		{cell.OfTable(""), "t\x03\x00\x00"},
		{cell.OfTable("a\x00b"), "t\x03a\x00\xffb\x00\x00"},
		{cell.OfRow("a", api.Value{}), "r\x03a\x00\x00\x00"},
		{cell.OfRow("a", value.Int(1)), "r\x03a\x00\x00\x01\x80\x00\x00\x00\x00\x00\x00\x01"},
		{cell.OfRow("a", value.Float(1)), "r\x03a\x00\x00\x02\xbf\xf0\x00\x00\x00\x00\x00\x00"},
		{cell.OfRow("a", value.Text("b")), "r\x03a\x00\x00\x03b\x00\x00"},
		{cell.OfUniq("a", "b", value.Text("c")), "u\x03a\x00\x00\x03b\x00\x00\x03c\x00\x00"},
		{cell.OfUniq("a", "b", value.Int(-1)), "u\x03a\x00\x00\x03b\x00\x00\x01\x7f\xff\xff\xff\xff\xff\xff\xff"},
		{cell.OfRef("a", value.Text("b"), "c", "d", value.Text("e")), "f\x03a\x00\x00\x03b\x00\x00\x03c\x00\x00\x03d\x00\x00\x03e\x00\x00"},
		{cell.OfRef("a", value.Int(0), "c", "d", api.Value{}), "f\x03a\x00\x00\x01\x80\x00\x00\x00\x00\x00\x00\x00\x03c\x00\x00\x03d\x00\x00\x00"},
		{cell.Rows("a"), "r\x03a\x00\x00"},
		{cell.Refs("a", value.Text("b"), "c", "d"), "f\x03a\x00\x00\x03b\x00\x00\x03c\x00\x00\x03d\x00\x00"},
	} {
		if c.got != c.want {
			t.Errorf("%q, want %q", c.got, c.want)
		}
	}
}

func TestKeysOfValidPlaces(t *testing.T) {
	for _, p := range validPlaces() {
		if got, want := keyOf(p), modelKey(p); got != want {
			t.Errorf("%#v: %q, want %q", p, got, want)
		}
	}
}

func TestInvalidComponentsContributeNothing(t *testing.T) {
	x, y := value.Text("x"), value.Text("y")
	for _, bad := range badNames {
		for _, c := range []struct{ got, want string }{
			{cell.OfTable(bad), "t"},
			{cell.OfRow(bad, x), "r\x03x\x00\x00"},
			{cell.OfUniq(bad, "b", x), "u\x03b\x00\x00\x03x\x00\x00"},
			{cell.OfUniq("a", bad, x), "u\x03a\x00\x00\x03x\x00\x00"},
			{cell.OfRef(bad, x, "b", "c", y), "f\x03x\x00\x00\x03b\x00\x00\x03c\x00\x00\x03y\x00\x00"},
			{cell.OfRef("a", x, bad, "c", y), "f\x03a\x00\x00\x03x\x00\x00\x03c\x00\x00\x03y\x00\x00"},
			{cell.OfRef("a", x, "b", bad, y), "f\x03a\x00\x00\x03x\x00\x00\x03b\x00\x00\x03y\x00\x00"},
			{cell.Rows(bad), "r"},
			{cell.Refs(bad, x, "b", "c"), "f\x03x\x00\x00\x03b\x00\x00\x03c\x00\x00"},
			{cell.Refs("a", x, bad, "c"), "f\x03a\x00\x00\x03x\x00\x00\x03c\x00\x00"},
			{cell.Refs("a", x, "b", bad), "f\x03a\x00\x00\x03x\x00\x00\x03b\x00\x00"},
		} {
			if c.got != c.want {
				t.Errorf("%q: %q, want %q", bad, c.got, c.want)
			}
		}
	}
	for _, bad := range badValues {
		for _, c := range []struct{ got, want string }{
			{cell.OfRow("a", bad), "r\x03a\x00\x00"},
			{cell.OfUniq("a", "b", bad), "u\x03a\x00\x00\x03b\x00\x00"},
			{cell.OfRef("a", bad, "b", "c", y), "f\x03a\x00\x00\x03b\x00\x00\x03c\x00\x00\x03y\x00\x00"},
			{cell.OfRef("a", x, "b", "c", bad), "f\x03a\x00\x00\x03x\x00\x00\x03b\x00\x00\x03c\x00\x00"},
			{cell.Refs("a", bad, "b", "c"), "f\x03a\x00\x00\x03b\x00\x00\x03c\x00\x00"},
		} {
			if c.got != c.want {
				t.Errorf("%#v: %q, want %q", bad, c.got, c.want)
			}
		}
	}
}

func TestNothingValid(t *testing.T) {
	bad := api.Value{Kind: 4}
	for _, c := range []struct{ got, want string }{
		{cell.OfRow(tooLong, bad), "r"},
		{cell.OfUniq(tooLong, tooLong, bad), "u"},
		{cell.OfRef(tooLong, bad, tooLong, tooLong, bad), "f"},
		{cell.OfTable(tooLong), "t"},
		{cell.Refs(tooLong, bad, tooLong, tooLong), "f"},
	} {
		if c.got != c.want {
			t.Errorf("%q, want %q", c.got, c.want)
		}
	}
}

// P7.1: the prefixes.

func commonPrefix(a, b string) string {
	n := 0
	for n < min(len(a), len(b)) && a[n] == b[n] {
		n++
	}
	return a[:n]
}

func TestRowsIsTheCommonPrefix(t *testing.T) {
	for _, table := range slices.Concat(names, badNames) {
		common := cell.OfRow(table, ascending[0])
		for _, v := range ascending {
			common = commonPrefix(common, cell.OfRow(table, v))
		}
		if got := cell.Rows(table); got != common {
			t.Errorf("%q: %q, want %q", table, got, common)
		}
	}
}

func TestRefsIsTheCommonPrefix(t *testing.T) {
	for _, a := range slices.Concat(names, badNames) {
		for _, b := range names {
			for _, key := range slices.Concat(ascending, badValues) {
				common := cell.OfRef(a, key, b, "c", ascending[0])
				for _, by := range ascending {
					common = commonPrefix(common, cell.OfRef(a, key, b, "c", by))
				}
				if got := cell.Refs(a, key, b, "c"); got != common {
					t.Errorf("%q %#v %q: %q, want %q", a, key, b, got, common)
				}
			}
		}
	}
}

// A scan from Rows to its After finds a table's rows, and nothing else.
func TestPrefixesSeparate(t *testing.T) {
	for _, p := range validPlaces() {
		key := keyOf(p)
		for _, table := range names {
			from := cell.Rows(table)
			within := key >= from && key < cell.After(from)
			if within != (p.Kind == cell.Row && p.Table == table) {
				t.Errorf("%#v and the rows of %q: %t", p, table, within)
			}
		}
		from := cell.Refs("users", value.Int(1), "posts", "by")
		within := key >= from && key < cell.After(from)
		if within != (p == ref("users", value.Int(1), "posts", "by", p.By)) {
			t.Errorf("%#v and the references: %t", p, within)
		}
	}
}

// P7.1: the least string above a prefix.

func TestAfterKnown(t *testing.T) {
	for prefix, want := range map[string]string{
		"": "", "a": "b", "ab": "ac", "\x00": "\x01", "a\x00": "a\x01", "\xfe": "\xff", "a\xfe": "a\xff", "a\xfe\xff": "a\xff",
		"\xff": "", "\xff\xff": "", "a\xff": "b", "a\xff\xff\xff": "b", "\xffa": "\xffb", "\xff\xff\x00\xff": "\xff\xff\x01",
		"\x7f": "\x80", "\xef\xbf\xbd": "\xef\xbf\xbe", "a\xef\xbf\xbd": "a\xef\xbf\xbe", "a\xfe\xfe": "a\xfe\xff", "a\x80": "a\x81",
		"\xfe\xff\xff": "\xff", "\x00\xff": "\x01", "é": "\xc3\xaa",
		strings.Repeat("\xff", 1000):       "",
		"a" + strings.Repeat("\xff", 1000): "b",
	} {
		if got := cell.After(prefix); got != want {
			t.Errorf("%q: %q, want %q", prefix, got, want)
		}
	}
}

func TestAfterAllSingleBytes(t *testing.T) {
	for b := range 255 {
		prefix := "\xff" + string([]byte{byte(b)})
		if got, want := cell.After(prefix), "\xff"+string([]byte{byte(b + 1)}); got != want {
			t.Errorf("%q: %q, want %q", prefix, got, want)
		}
	}
}

func shortStrings(length int) []string {
	all := []string{""}
	for i := 0; i < len(all); i++ {
		if len(all[i]) < length {
			for _, b := range []string{"\x00", "\x01", "a", "\xfe", "\xff"} {
				all = append(all, all[i]+b)
			}
		}
	}
	return all
}

// What is below After has the prefix or is below it, and the rest is above all with the prefix.
func TestAfterIsTheLeastAbove(t *testing.T) {
	all := shortStrings(4)
	for _, prefix := range shortStrings(3) {
		after := cell.After(prefix)
		if after != "" && strings.HasPrefix(after, prefix) {
			t.Errorf("%q: %q", prefix, after)
		}
		for _, s := range all {
			above := s > prefix && !strings.HasPrefix(s, prefix)
			if above != (after != "" && s >= after) {
				t.Errorf("%q: %q, and %q", prefix, after, s)
			}
		}
	}
}

// P7.1: the components of a key.

func wantForm(t *testing.T, key string) {
	t.Helper()
	if p, err := cell.Parse(key); p != (cell.Place{}) || err != api.ErrForm {
		t.Errorf("%q: %#v, %d", key, p, err)
	}
}

func TestParseInvalid(t *testing.T) {
	const a, number, null = "\x03a\x00\x00", "\x01\x80\x00\x00\x00\x00\x00\x00\x07", "\x00"
	const float = "\x02\xbf\xf0\x00\x00\x00\x00\x00\x00"
	for _, key := range []string{
		"", "a", "x", "\x00", "R", "U", "F", "T", "r", "u", "f", "t",
		a, "x" + a, "x" + a + a, "R" + a + a, "\xff" + a, "\x00" + a, // no kind, or an unknown one
		"r" + a, "u" + a + a, "f" + a + a + a + a, "f" + a + a, "t", // something is missing
		"r" + a + a + a, "u" + a + a + a + a, "f" + a + a + a + a + a + a, "t" + a + a, "t" + a + null, "t" + a + "\x00\x00", // too much
		"r" + number + a, "r" + null + a, "r" + float + a, // the table's name is no text
		"u" + number + a + a, "u" + null + a + a, "u" + a + number + a, "u" + a + null + a, "u" + a + float + a,
		"f" + number + a + a + a + a, "f" + a + a + number + a + a, "f" + a + a + a + number + a,
		"f" + null + a + a + a + a, "f" + a + a + null + a + a, "f" + a + a + a + null + a, "f" + a + a + float + float + a,
		"t" + number, "t" + null, "t" + float,
		"t\x04a\x00\x00", "r" + a + "\x04a\x00\x00", "r" + a + "\xff", // an unknown kind of value
		"t\x03a\x00", "t\x03a", "t\x03", "t\x03a\x00\x01\x00\x00", "t\x03a\x00\xfe\x00\x00", // no end
		"t\x03" + tooLong + "\x00\x00", "r" + a + "\x03" + tooLong + "\x00\x00", "r\x03" + tooLong + "\x00\x00" + a, // too long
		"r" + a + "\x02\x80\x00\x00\x00\x00\x00\x00", "r" + a + "\x02\xff\xf8\x00\x00\x00\x00\x00\x01", // floats cut off, not canonical
		"r" + a + "\x02\x7f\xff\xff\xff\xff\xff\xff\xff", // the other zero
		"r" + a + "\x01\x80",                             // a number cut off
		"u" + a, "f" + a, "f" + a + number, "f" + a + number + a, "f" + a + number + a + a,
	} {
		wantForm(t, key)
	}
}

// The checks of a key's parts don't stand in for each other.
func TestParseOneBadNameAmongGoodOnes(t *testing.T) {
	good := ref("a", value.Text("b"), "c", "d", value.Text("e"))
	parts := []string{"f", textBytes(good.Table), valueBytes(good.Key), textBytes(good.From), textBytes(good.Col), valueBytes(good.By)}
	for i := range parts {
		for _, other := range []string{"", "\x00", valueBytes(value.Int(1)), valueBytes(value.Float(1)), "\x04", "\x03z", textBytes("z")} {
			changed := slices.Clone(parts)
			changed[i] = other
			key := strings.Join(changed, "")
			_, err := cell.Parse(key)
			names := i == 1 || i == 3 || i == 4
			valid := other == textBytes("z") || other != "" && other != "\x04" && other != "\x03z" && !names
			if i == 0 {
				valid = false
			}
			if (err == api.OK) != valid {
				t.Errorf("%d, %q: %d", i, key, err)
			}
		}
	}
}

func TestParsePartsOfKeys(t *testing.T) {
	for _, p := range validPlaces() {
		key := keyOf(p)
		for i := range len(key) {
			wantForm(t, key[:i])
		}
		for _, more := range []string{"\x00", "\x01", "\xff", "a", textBytes("a")} {
			wantForm(t, key+more)
		}
	}
}

// A string is a key exactly if valid components have that key.
func checkParse(t *testing.T, key string) {
	t.Helper()
	p, err := cell.Parse(key)
	if err != api.OK {
		wantForm(t, key)
		return
	}
	for _, name := range []string{p.Table, p.From, p.Col} {
		if len(name) > 24 {
			t.Errorf("%q: %q is too long", key, name)
		}
	}
	if !value.Good(p.Key) || !value.Good(p.By) || modelKey(p) != key || p.Kind != key[0] {
		t.Errorf("%q: %#v", key, p)
	}
}

func TestParseChangedKeys(t *testing.T) {
	random := rand.New(rand.NewSource(1))
	for range 50000 {
		key := []byte(keyOf(randomPlace(random)))
		for range 1 + random.Intn(2) {
			at, b := random.Intn(len(key)), []byte{0, 1, 2, 3, 'f', 'r', 't', 'u', 255, byte(random.Intn(256))}[random.Intn(10)]
			switch random.Intn(3) {
			case 0:
				key[at] = b
			case 1:
				key = slices.Insert(key, at, b)
			case 2:
				if len(key) > 1 {
					key = slices.Delete(key, at, at+1)
				}
			}
		}
		checkParse(t, string(key))
	}
}

func TestParseAllShortStrings(t *testing.T) {
	valid := 0
	for _, kind := range []string{"r", "u", "f", "t", "a", "\x00"} {
		all := []string{""}
		for i := 0; i < len(all); i++ {
			checkParse(t, kind+all[i])
			if _, err := cell.Parse(kind + all[i]); err == api.OK {
				valid++
			}
			if len(all[i]) < 7 {
				for _, b := range []string{"\x00", "\x03", "a", "\xff"} {
					all = append(all, all[i]+b)
				}
			}
		}
	}
	// Each way to spell names and values with at most seven of these bytes was found.
	if want := countShort(); valid != want {
		t.Errorf("%d keys, want %d", valid, want)
	}
}

// countShort returns how many keys there are whose components have at most
// seven of the bytes 0, 3, a and 255 in total.
func countShort() int {
	// texts[n] counts the texts of which the key has n bytes; only zeros take two.
	var bodies, texts, values [8]int
	bodies[0], bodies[1] = 1, 3
	for n := 2; n < 8; n++ {
		bodies[n] = 3*bodies[n-1] + bodies[n-2]
	}
	copy(texts[3:], bodies[:])
	values = texts
	values[1]++ // null
	sum := func(parts ...[8]int) int {
		counts := [8]int{1}
		for _, part := range parts {
			var next [8]int
			for n := range counts {
				for m := 0; n+m < 8; m++ {
					next[n+m] += counts[n] * part[m]
				}
			}
			counts = next
		}
		total := 0
		for _, count := range counts {
			total += count
		}
		return total
	}
	return sum(texts, values) + sum(texts, texts, values) + sum(texts, values, texts, texts, values) + sum(texts)
}

// An invalid component leaves one too few, so what is returned then is never a key.
func TestParseKeysOfInvalidComponents(t *testing.T) {
	x := value.Text("x")
	for _, key := range []string{
		cell.OfTable(tooLong), cell.OfRow(tooLong, x), cell.OfRow("a", value.Text(tooLong)), cell.OfUniq(tooLong, "b", x), cell.OfUniq("a", tooLong, x),
		cell.OfUniq("a", "b", api.Value{Kind: 4}), cell.OfRef(tooLong, x, "b", "c", x), cell.OfRef("a", api.Value{Num: 1}, "b", "c", x),
		cell.OfRef("a", x, tooLong, "c", x), cell.OfRef("a", x, "b", tooLong, x), cell.OfRef("a", x, "b", "c", api.Value{Kind: -1}),
		cell.Rows("a"), cell.Refs("a", x, "b", "c"),
	} {
		wantForm(t, key)
	}
}

// P7.1: homes and shards.

func TestHomeOfReferenceIsItsRow(t *testing.T) {
	for _, p := range validPlaces() {
		key, want := keyOf(p), keyOf(p)
		if p.Kind == 'f' {
			want = modelKey(row(p.Table, p.Key))
		}
		if got := cell.Home(key); got != want {
			t.Errorf("%#v: %q, want %q", p, got, want)
		}
	}
}

func TestHomeOfOtherStringsIsItself(t *testing.T) {
	k := cell.OfRef("users", value.Int(7), "posts", "by", value.Text("p1"))
	others := []string{
		"", "a", "f", "r", "\x00", "\xff", "f\x00", k + "\x00", k + k, "f" + k, "x" + k[1:], "r" + k[1:], "u" + k[1:], "t" + k[1:], "F" + k[1:],
		cell.Rows("users"), cell.Refs("users", value.Int(7), "posts", "by"), cell.OfRef(tooLong, value.Int(7), "posts", "by", value.Text("p1")),
		cell.OfRef("users", value.Int(7), "posts", tooLong, value.Int(1)), "f" + textBytes("a") + "\x00" + "\x00" + textBytes("c") + "\x00",
		"f\x03" + tooLong + "\x00\x00" + k[1:], strings.Repeat("f", 1000),
	}
	for i := range len(k) {
		others = append(others, k[:i])
	}
	for _, s := range others {
		if got := cell.Home(s); got != s {
			t.Errorf("%q: %q", s, got)
		}
	}
}

func TestHomeOfHome(t *testing.T) {
	random := rand.New(rand.NewSource(2))
	for range 5000 {
		home := cell.Home(keyOf(randomPlace(random)))
		if again := cell.Home(home); again != home {
			t.Errorf("%q: %q", home, again)
		}
	}
}

func TestShard(t *testing.T) {
	strange := []string{"", "a", "f", "r", "\xff", strings.Repeat("x", 1000)}
	for _, p := range validPlaces() {
		strange = append(strange, keyOf(p))
	}
	limited := map[int]uint32{
		1: 1, 2: 2, 3: 3, 4: 4, 0: 1, -1: 1, -4: 1, math.MinInt: 1, 5: 4, 6: 4, 8: 4, 1000: 4, 1 << 32: 4, 1<<32 + 1: 4, math.MaxInt: 4,
	}
	for _, key := range strange {
		home := key
		if p, err := cell.Parse(key); err == api.OK && p.Kind == 'f' {
			home = modelKey(row(p.Table, p.Key))
		}
		sum := crc32.ChecksumIEEE([]byte(home))
		for nodes, n := range limited {
			if got, want := cell.Shard(key, nodes), int(sum%n); got != want {
				t.Errorf("%q, %d: %d, want %d", key, nodes, got, want)
			}
		}
	}
}

func TestShardKnown(t *testing.T) {
	// The checksum of the string 123456789, which is no key, is CBF43926.
	for nodes, want := range map[int]int{1: 0, 2: 0, 3: 0xCBF43926 % 3, 4: 2} {
		if got := cell.Shard("123456789", nodes); got != want {
			t.Errorf("%d: %d, want %d", nodes, got, want)
		}
	}
}

func TestShardsAreUsed(t *testing.T) {
	var rows [4]int
	for n := range 400 {
		rows[cell.Shard(cell.OfRow("users", value.Int(n)), 4)]++
	}
	for shard, count := range rows {
		if count < 50 {
			t.Errorf("%d: %d of 400 rows", shard, count)
		}
	}
}

// P7.2: keys can be converted back, are different, and have the order of the rows.

func TestParseBack(t *testing.T) {
	for _, p := range validPlaces() {
		if got, err := cell.Parse(keyOf(p)); got != p || err != api.OK {
			t.Errorf("%#v: %#v, %d", p, got, err)
		}
	}
}

func TestParseBackRandom(t *testing.T) {
	random := rand.New(rand.NewSource(3))
	for range 20000 {
		p := randomPlace(random)
		if got, err := cell.Parse(keyOf(p)); got != p || err != api.OK {
			t.Fatalf("%#v: %#v, %d", p, got, err)
		}
	}
}

func TestDifferentPlacesHaveDifferentKeys(t *testing.T) {
	seen := map[string]cell.Place{}
	for _, p := range validPlaces() {
		key := keyOf(p)
		if other, ok := seen[key]; ok && other != p {
			t.Errorf("%#v and %#v: %q", p, other, key)
		}
		seen[key] = p
	}
}

func TestRowsHaveTheOrderOfTheirKeys(t *testing.T) {
	for _, table := range names {
		for i, v := range ascending {
			for j, w := range ascending {
				if got, want := cmp.Compare(cell.OfRow(table, v), cell.OfRow(table, w)), cmp.Compare(i, j); got != want {
					t.Errorf("%q, %#v, %#v: %d, want %d", table, v, w, got, want)
				}
			}
		}
	}
}

func TestRandomRowsHaveTheOrderOfTheirKeys(t *testing.T) {
	random := rand.New(rand.NewSource(4))
	for range 20000 {
		table, v, w := randomName(random), randomValue(random), randomValue(random)
		if got, want := cmp.Compare(cell.OfRow(table, v), cell.OfRow(table, w)), value.Compare(v, w); got != want {
			t.Fatalf("%q, %#v, %#v: %d, want %d", table, v, w, got, want)
		}
	}
}

func FuzzParse(f *testing.F) {
	f.Add(cell.OfRow("a", value.Int(1)))
	f.Add(cell.OfUniq("a", "b", value.Float(0.5)))
	f.Add(cell.OfRef("a", api.Value{}, "b", "c", value.Text("\x00")))
	f.Add(cell.OfTable("\xff"))
	f.Fuzz(func(t *testing.T, key string) {
		checkParse(t, key)
		cell.Home(key)
		cell.Shard(key, len(key))
	})
}

func ExampleParse() {
	key := cell.OfRef("users", value.Int(7), "posts", "by", value.Text("p1"))
	p, err := cell.Parse(key)
	fmt.Println(err, p.From, p.By.Text, p.Col, p.Table, p.Key.Num)
	fmt.Println(cell.Shard(key, 4) == cell.Shard(cell.OfRow("users", value.Int(7)), 4))
	// Output:
	// 0 posts p1 by users 7
	// true
}
