package value_test

import (
	"bytes"
	"encoding/binary"
	"math"
	"math/big"
	"math/rand"
	"slices"
	"strconv"
	"strings"
	"testing"

	"mortmain/api"
	"mortmain/pack"
	"mortmain/real"
	"mortmain/value"
)

const (
	nan     = 0x7FF8000000000000
	negZero = math.MinInt
	one     = 0x3FF0000000000000
)

func float(bits int) api.Value { return api.Value{Kind: api.Float, Num: bits} }

var longest = strings.Repeat("a", 24)

// ascending holds valid values in the order that the document gives.
var ascending = []api.Value{
	{},
	value.Int(math.MinInt), value.Int(math.MinInt + 1), value.Int(-257), value.Int(-256), value.Int(-1),
	value.Int(0), value.Int(1), value.Int(255), value.Int(256), value.Int(math.MaxInt - 1), value.Int(math.MaxInt),
	value.Float(math.Inf(-1)), value.Float(-math.MaxFloat64), value.Float(-1), value.Float(-math.SmallestNonzeroFloat64),
	value.Float(0), value.Float(math.SmallestNonzeroFloat64), value.Float(0.5), value.Float(1), value.Float(math.MaxFloat64),
	value.Float(math.Inf(1)), value.Float(math.NaN()),
	value.Text(""), value.Text("\x00"), value.Text("\x00\x00"), value.Text(strings.Repeat("\x00", 24)), value.Text("\x00\x01"),
	value.Text("\x00\xff"), value.Text("\x01"), value.Text("\x01\x00"), value.Text("a"), value.Text("a\x00"), value.Text("a\x00\x00"),
	value.Text("a\x00\xff"), value.Text("a\x01"), value.Text("aa"), value.Text(longest), value.Text("ab"), value.Text("a\xff"),
	value.Text("b"), value.Text("\xc3\xa9"), value.Text("\xff"), value.Text("\xff\x00"), value.Text(strings.Repeat("\xff", 24)),
}

// invalid holds values that break each condition alone.
var invalid = []api.Value{
	{Num: 1}, {Num: -1}, {Text: "a"}, {Text: "\x00"},
	{Kind: api.Int, Text: "a"}, {Kind: api.Int, Num: 5, Text: "a"},
	{Kind: api.Float, Text: "a"}, {Kind: api.Float, Num: one, Text: "a"},
	float(negZero), float(nan + 1), float(-1), float(math.MaxInt), float(nan - 1),
	{Kind: api.Text, Num: 1}, {Kind: api.Text, Num: -1, Text: "a"}, value.Text(longest + "a"), value.Text(strings.Repeat("\x00", 25)),
	{Kind: 4}, {Kind: 4, Text: "a"}, {Kind: 4, Num: 1}, {Kind: -1}, {Kind: 255}, {Kind: 256}, {Kind: 257}, {Kind: math.MinInt}, {Kind: math.MaxInt},
}

func randomText(r *rand.Rand, length int) string {
	s := make([]byte, length)
	for i := range s {
		s[i] = []byte{0, 0, 1, 'a', 254, 255, byte(r.Intn(256))}[r.Intn(7)]
	}
	return string(s)
}

// randomValue returns a valid value.
func randomValue(r *rand.Rand) api.Value {
	switch r.Intn(6) {
	case 0:
		return ascending[r.Intn(len(ascending))]
	case 1:
		return value.Int(int(r.Uint64()))
	case 2:
		return value.Int(r.Intn(2001) - 1000)
	case 3:
		return value.Float(math.Float64frombits(r.Uint64()))
	case 4:
		return value.Float(float64(r.Intn(2001)-1000) / 8)
	}
	return value.Text(randomText(r, r.Intn(25)))
}

// anyValue returns a value that may be invalid.
func anyValue(r *rand.Rand) api.Value {
	switch r.Intn(4) {
	case 0:
		return invalid[r.Intn(len(invalid))]
	case 1:
		nums := []int{0, 0, 1, -1, nan, negZero, int(r.Uint64())}
		texts := []string{"", "", "a", randomText(r, r.Intn(30))}
		return api.Value{Kind: r.Intn(7) - 1, Num: nums[r.Intn(len(nums))], Text: texts[r.Intn(len(texts))]}
	}
	return randomValue(r)
}

// sample returns valid and invalid values.
func sample(seed int64, count int) []api.Value {
	r := rand.New(rand.NewSource(seed))
	list := append(slices.Clone(ascending), invalid...)
	for range count {
		list = append(list, anyValue(r))
	}
	return list
}

// good says in words of its own which values are valid.
func good(v api.Value) bool {
	f := math.Float64frombits(uint64(v.Num))
	canonical := v.Num == nan || !math.IsNaN(f) && v.Num != negZero
	return v == api.Value{} ||
		v.Kind == 1 && len(v.Text) == 0 ||
		v.Kind == 2 && len(v.Text) == 0 && canonical ||
		v.Kind == 3 && len(v.Text) < 25 && v.Num == 0
}

// order compares by the document's words.
func order(a, b api.Value) int {
	if a.Kind != b.Kind {
		return big.NewInt(int64(a.Kind)).Cmp(big.NewInt(int64(b.Kind)))
	}
	switch a.Kind {
	case 1:
		return big.NewInt(int64(a.Num)).Cmp(big.NewInt(int64(b.Num)))
	case 2:
		return real.Compare(a.Num, b.Num)
	}
	return bytes.Compare([]byte(a.Text), []byte(b.Text))
}

// key builds the key of a valid value by the document's words.
func key(v api.Value) string {
	out := []byte{byte(v.Kind)}
	switch v.Kind {
	case 1:
		sum := new(big.Int).Add(big.NewInt(int64(v.Num)), new(big.Int).Lsh(big.NewInt(1), 63))
		out = append(out, sum.FillBytes(make([]byte, 8))...)
	case 2:
		out = binary.BigEndian.AppendUint64(out, real.Key(v.Num))
	case 3:
		for i := range len(v.Text) {
			out = append(out, v.Text[i])
			if v.Text[i] == 0 {
				out = append(out, 255)
			}
		}
		out = append(out, 0, 0)
	}
	return string(out)
}

// encoding builds the encoding of a value with layer 1.
func encoding(v api.Value) string {
	w := &pack.Writer{}
	w.Int(v.Kind)
	w.Int(v.Num)
	w.Str(v.Text)
	return w.Bytes()
}

func rowEncoding(row []api.Value) string {
	w := &pack.Writer{}
	w.Int(len(row))
	s := w.Bytes()
	for _, v := range row {
		s += encoding(v)
	}
	return s
}

// P3.1: Int, Float, Text.

func TestMake(t *testing.T) {
	for _, n := range []int{0, 1, -1, 7, math.MinInt, math.MaxInt} {
		if got, want := value.Int(n), (api.Value{Kind: 1, Num: n}); got != want {
			t.Errorf("Int(%d): %v", n, got)
		}
	}
	for _, c := range []struct {
		f    float64
		bits int
	}{
		{0, 0}, {math.Copysign(0, -1), 0}, {1, one}, {-1, -0x4010000000000000},
		{math.NaN(), nan}, {math.Float64frombits(0xFFF8000000000123), nan}, {math.Float64frombits(0x7FF0000000000001), nan},
		{math.Inf(1), 0x7FF0000000000000}, {math.Inf(-1), -0x0010000000000000}, {math.SmallestNonzeroFloat64, 1},
	} {
		if got, want := value.Float(c.f), (api.Value{Kind: 2, Num: c.bits}); got != want {
			t.Errorf("Float(%v): %v, want %v", c.f, got, want)
		}
	}
	for _, s := range []string{"", "a", "\x00", "\xff\xfe", longest, longest + "a", strings.Repeat("b", 1000)} {
		if got, want := value.Text(s), (api.Value{Kind: 3, Text: s}); got != want {
			t.Errorf("Text(%q): %v", s, got)
		}
	}
}

// P3.1: Good.

func TestGood(t *testing.T) {
	for _, v := range ascending {
		if !value.Good(v) {
			t.Errorf("%v isn't good", v)
		}
	}
	for _, v := range invalid {
		if value.Good(v) {
			t.Errorf("%v is good", v)
		}
	}
	for _, v := range sample(1, 20000) {
		if value.Good(v) != good(v) {
			t.Errorf("Good(%v) is not %v", v, good(v))
		}
	}
}

// P3.1: Compare, also of values that aren't valid.

func TestCompare(t *testing.T) {
	for i, a := range ascending {
		for k, b := range ascending {
			want := 0
			if i < k {
				want = -1
			} else if i > k {
				want = 1
			}
			if got := value.Compare(a, b); got != want {
				t.Errorf("Compare(%v, %v): %d, want %d", a, b, got, want)
			}
		}
	}
}

func TestCompareInvalid(t *testing.T) {
	for _, c := range []struct {
		a, b api.Value
		want int
	}{
		{api.Value{Num: 5}, api.Value{}, 0},
		{api.Value{Text: "b"}, api.Value{Text: "a"}, 1},
		{api.Value{Text: "", Num: 9}, api.Value{Text: "a"}, -1},
		{api.Value{Kind: api.Int, Num: 1, Text: "b"}, api.Value{Kind: api.Int, Num: 1, Text: "a"}, 0},
		{api.Value{Kind: api.Int, Num: 1, Text: "b"}, api.Value{Kind: api.Int, Num: 2, Text: "a"}, -1},
		{api.Value{Kind: api.Float, Text: "b"}, api.Value{Kind: api.Float, Text: "a"}, 0},
		{float(negZero), value.Float(0), 0},
		{float(nan + 1), value.Float(math.NaN()), 0},
		{float(-1), value.Float(math.Inf(1)), 1},
		{api.Value{Kind: api.Text, Num: 2, Text: "a"}, api.Value{Kind: api.Text, Num: 1, Text: "a"}, 0},
		{value.Text(longest + "b"), value.Text(longest + "a"), 1},
		{api.Value{Kind: 4, Num: 2}, api.Value{Kind: 4, Num: 1}, 0},
		{api.Value{Kind: 4, Text: "a"}, api.Value{Kind: 4, Text: "ab"}, -1},
		{api.Value{Kind: -1, Text: "b"}, api.Value{Kind: -1, Text: "a"}, 1},
		{api.Value{Kind: math.MinInt}, api.Value{Kind: math.MaxInt}, -1},
		{api.Value{Kind: math.MaxInt}, api.Value{Kind: -1}, 1},
		{api.Value{Kind: -1, Text: "b"}, api.Value{}, -1},
		{api.Value{Kind: 4}, value.Text("z"), 1},
	} {
		if got := value.Compare(c.a, c.b); got != c.want {
			t.Errorf("Compare(%v, %v): %d, want %d", c.a, c.b, got, c.want)
		}
	}
	list := sample(2, 600)
	for _, a := range list {
		for _, b := range list {
			if got, want := value.Compare(a, b), order(a, b); got != want {
				t.Errorf("Compare(%v, %v): %d, want %d", a, b, got, want)
			}
		}
	}
}

// P3.1: Key.

func TestKey(t *testing.T) {
	for _, c := range []struct {
		v    api.Value
		want string
	}{
		{api.Value{}, "\x00"},
		{value.Int(0), "\x01\x80\x00\x00\x00\x00\x00\x00\x00"},
		{value.Int(-1), "\x01\x7f\xff\xff\xff\xff\xff\xff\xff"},
		{value.Int(math.MinInt), "\x01\x00\x00\x00\x00\x00\x00\x00\x00"},
		{value.Int(math.MaxInt), "\x01\xff\xff\xff\xff\xff\xff\xff\xff"},
		{value.Int(0x0102030405060708), "\x01\x81\x02\x03\x04\x05\x06\x07\x08"},
		{value.Float(0), "\x02\x80\x00\x00\x00\x00\x00\x00\x00"},
		{value.Float(1), "\x02\xbf\xf0\x00\x00\x00\x00\x00\x00"},
		{value.Float(-1), "\x02\x40\x0f\xff\xff\xff\xff\xff\xff"},
		{value.Float(math.NaN()), "\x02\xff\xf8\x00\x00\x00\x00\x00\x00"},
		{value.Text(""), "\x03\x00\x00"},
		{value.Text("a"), "\x03a\x00\x00"},
		{value.Text("\x00"), "\x03\x00\xff\x00\x00"},
		{value.Text("a\x00b"), "\x03a\x00\xffb\x00\x00"},
		{value.Text("\x00\x00\xff"), "\x03\x00\xff\x00\xff\xff\x00\x00"},
		{value.Text(longest), "\x03" + longest + "\x00\x00"},
	} {
		if got := value.Key(c.v); got != c.want {
			t.Errorf("Key(%v): %q, want %q", c.v, got, c.want)
		}
	}
	for _, v := range invalid {
		if got := value.Key(v); got != "" {
			t.Errorf("Key(%v): %q", v, got)
		}
	}
	for _, v := range sample(3, 20000) {
		want := ""
		if good(v) {
			want = key(v)
		}
		if got := value.Key(v); got != want {
			t.Errorf("Key(%v): %q, want %q", v, got, want)
		}
	}
}

// P3.2: the order of keys, and no key that begins with another one.

func TestKeyOrder(t *testing.T) {
	r := rand.New(rand.NewSource(4))
	list := slices.Clone(ascending)
	for range 600 {
		list = append(list, randomValue(r), value.Text(randomText(r, r.Intn(4))))
	}
	for _, a := range list {
		for _, b := range list {
			k, l := value.Key(a), value.Key(b)
			if strings.Compare(k, l) != value.Compare(a, b) {
				t.Errorf("the keys of %v and %v have another order", a, b)
			}
			if a != b && strings.HasPrefix(l, k) {
				t.Errorf("the key of %v begins with that of %v", b, a)
			}
		}
	}
}

// P3.1, P3.2: Cut.

func checkCut(t *testing.T, s string, v api.Value, rest string, e api.Errno) {
	t.Helper()
	gotV, gotRest, gotE := value.Cut(s)
	if gotV != v || gotRest != rest || gotE != e {
		t.Errorf("Cut(%q): %v, %q, %d; want %v, %q, %d", s, gotV, gotRest, gotE, v, rest, e)
	}
}

func TestCutKey(t *testing.T) {
	for _, v := range sample(5, 5000) {
		if !good(v) {
			continue
		}
		k := value.Key(v)
		for _, rest := range []string{"", "x", "\x00", "\x00\x00", "\xff", "\xff\x00\x00", k} {
			checkCut(t, k+rest, v, rest, api.OK)
		}
		for i := range len(k) {
			checkCut(t, k[:i], api.Value{}, "", api.ErrForm)
		}
	}
}

func TestCutForm(t *testing.T) {
	for _, s := range []string{
		"", "\x04", "\x04\x00\x00", "\xff", "\xff\x00\x00\x00\x00\x00\x00\x00\x00\x00", "a", "null",
		"\x01", "\x01\x00\x00\x00\x00\x00\x00\x00", "\x02", "\x02\x80\x00\x00\x00\x00\x00\x00",
		// The keys of a negative zero, and of NaNs that aren't canonical.
		"\x02\x7f\xff\xff\xff\xff\xff\xff\xff", "\x02\xff\xf8\x00\x00\x00\x00\x00\x01", "\x02\xff\xf0\x00\x00\x00\x00\x00\x01",
		"\x02\x00\x00\x00\x00\x00\x00\x00\x00", "\x02\xff\xff\xff\xff\xff\xff\xff\xff", "\x02\x00\x07\xff\xff\xff\xff\xff\xff",
		"\x03", "\x03\x00", "\x03a", "\x03a\x00", "\x03a\x00\xff", "\x03a\x00\xff\x00", "\x03a\x00\x01\x00\x00", "\x03a\x00\xfe\x00\x00", "\x03a\x00b\x00\x00",
		"\x03" + longest + "a\x00\x00", "\x03" + strings.Repeat("\x00\xff", 25) + "\x00\x00", "\x03" + longest + "\x00\xff\x00\x00",
		"\x03" + strings.Repeat("a", 100000), "\x03" + strings.Repeat("a", 100000) + "\x00\x00",
	} {
		checkCut(t, s, api.Value{}, "", api.ErrForm)
	}
}

// eachString visits all strings over an alphabet with at most that many bytes.
func eachString(alphabet string, most int, visit func(s string)) {
	level := []string{""}
	for range most + 1 {
		var next []string
		for _, s := range level {
			visit(s)
			for i := range len(alphabet) {
				next = append(next, s+alphabet[i:i+1])
			}
		}
		level = next
	}
}

// All short texts are enumerated, so their keys are all keys that the short strings begin with.
func TestCutAllShort(t *testing.T) {
	const alphabet = "\x00\x01\xfe\xff"
	keys := map[string]api.Value{}
	eachString(alphabet, 4, func(s string) { keys[key(value.Text(s))] = value.Text(s) })
	eachString(alphabet, 6, func(s string) {
		s = "\x03" + s
		for i := range len(s) + 1 {
			if v, ok := keys[s[:i]]; ok {
				checkCut(t, s, v, s[i:], api.OK)
				return
			}
		}
		checkCut(t, s, api.Value{}, "", api.ErrForm)
	})
}

func TestCutRandom(t *testing.T) {
	r := rand.New(rand.NewSource(6))
	for range 50000 {
		kind := r.Intn(5)
		s := string([]byte{byte(kind)}) + randomText(r, r.Intn(12))
		v, rest, e := value.Cut(s)
		if e == api.OK {
			if !good(v) || key(v)+rest != s {
				t.Errorf("Cut(%q): %v, %q", s, v, rest)
			}
			continue
		}
		if v != (api.Value{}) || rest != "" || e != api.ErrForm {
			t.Errorf("Cut(%q): %v, %q, %d", s, v, rest, e)
		}
		if kind == 0 || kind == 1 && len(s) > 8 {
			t.Errorf("Cut(%q): no key", s)
		}
	}
}

// P3.1: Put and Take.

func TestPut(t *testing.T) {
	all, want := &pack.Writer{}, ""
	for _, v := range sample(7, 3000) {
		w := &pack.Writer{}
		value.Put(w, v)
		if w.Bytes() != encoding(v) {
			t.Errorf("Put of %v: %q", v, w.Bytes())
		}
		value.Put(all, v)
		want += encoding(v)
	}
	if all.Bytes() != want {
		t.Error("values one after the other")
	}
	w := &pack.Writer{}
	value.Put(w, api.Value{Kind: 3, Text: "ab"})
	if w.Bytes() != "\x06\x00\x04ab" {
		t.Errorf("the text ab: %q", w.Bytes())
	}
}

func TestTake(t *testing.T) {
	for _, v := range sample(8, 3000) {
		r := pack.Open(encoding(v) + encoding(value.Int(77)))
		got, next := value.Take(r), value.Take(r)
		if good(v) && (got != v || next != value.Int(77) || r.End() != api.OK) {
			t.Errorf("Take of %v: %v, %v, %d", v, got, next, r.End())
		}
		if !good(v) && (got != api.Value{} || next != api.Value{} || r.End() != api.ErrForm) {
			t.Errorf("Take of %v: %v, %v, %d", v, got, next, r.End())
		}
	}
}

// An invalid value is a failure also if no bytes, or none that are a number, follow it.
func TestTakeInvalid(t *testing.T) {
	for _, v := range invalid {
		for _, rest := range []string{"", "\x00", "\x01", "\x02", "\x80", "\x00\x00\x00", "\x06\x00\x04ab"} {
			r := pack.Open(encoding(v) + rest)
			if got := value.Take(r); got != (api.Value{}) || r.End() != api.ErrForm {
				t.Errorf("Take of %v and %q: %v, %d", v, rest, got, r.End())
			}
			if r.Int() != 0 || r.Str() != "" || r.Bool() || value.Take(r) != (api.Value{}) || r.End() != api.ErrForm {
				t.Errorf("after %v and %q something was decoded", v, rest)
			}
		}
	}
}

func TestTakeShort(t *testing.T) {
	for _, v := range ascending {
		s := encoding(v)
		for i := range len(s) {
			r := pack.Open(s[:i])
			value.Take(r)
			if r.End() != api.ErrForm {
				t.Errorf("%d bytes of %v are taken", i, v)
			}
		}
	}
	for _, s := range []string{"", "\x80", "\x80\x00\x00\x00"} {
		r := pack.Open(s)
		if got := value.Take(r); got != (api.Value{}) || r.End() != api.ErrForm {
			t.Errorf("Take of %q: %v, %d", s, got, r.End())
		}
	}
}

func TestNilObjects(t *testing.T) {
	value.Put(nil, value.Int(1))
	if got := value.Take(nil); got != (api.Value{}) {
		t.Errorf("Take of a nil reader: %v", got)
	}
}

// P3.1, P3.2: Row and Read.

func TestRow(t *testing.T) {
	for _, c := range []struct {
		row  []api.Value
		want string
	}{
		{nil, "\x00"},
		{[]api.Value{}, "\x00"},
		{[]api.Value{{}}, "\x02\x00\x00\x00"},
		{[]api.Value{value.Int(-1), value.Text("ab")}, "\x04\x02\x01\x00\x06\x00\x04ab"},
		{[]api.Value{{Kind: -1, Num: 1, Text: "a"}}, "\x02\x01\x02\x02a"},
	} {
		if got := value.Row(c.row); got != c.want {
			t.Errorf("Row(%v): %q, want %q", c.row, got, c.want)
		}
	}
	for _, row := range [][]api.Value{ascending, invalid, ascending[:6], ascending[:7]} {
		before := slices.Clone(row)
		if value.Row(row) != rowEncoding(row) {
			t.Errorf("Row of %d values", len(row))
		}
		if !slices.Equal(row, before) {
			t.Error("Row changed its argument")
		}
	}
}

func TestRead(t *testing.T) {
	r := rand.New(rand.NewSource(9))
	for range 20000 {
		row := make([]api.Value, r.Intn(10))
		for i := range row {
			row[i] = randomValue(r)
			if r.Intn(10) == 0 {
				row[i] = anyValue(r)
			}
		}
		got, e := value.Read(value.Row(row))
		if len(row) <= 6 && !slices.ContainsFunc(row, func(v api.Value) bool { return !good(v) }) {
			if !slices.Equal(got, row) || e != api.OK {
				t.Errorf("Read of %v: %v, %d", row, got, e)
			}
		} else if len(got) != 0 || e != api.ErrForm {
			t.Errorf("Read of %v: %v, %d", row, got, e)
		}
	}
}

func TestReadForm(t *testing.T) {
	six := rowEncoding(ascending[20:26])
	list := []string{
		"", "\x80", "\x80\x00", "\x01", "\x01\x00\x00\x00", "\x02", "\x02\x00\x00", "\x00\x00", "\x02\x00\x00\x00\x00",
		six + "\x00", six + encoding(value.Int(1)), rowEncoding(ascending[:7]), "\x0e" + strings.Repeat("\x00", 21),
		"\x04\x00\x00\x00", "\xfe\xff\xff\xff\xff\xff\xff\xff\xff\x01", "\xff\xff\xff\xff\xff\xff\xff\xff\xff\x01",
		"\x02\x06\x00\x32" + longest + "a", "\x02\x04\x01\x00" + longest, "\x02\x06\x00\x01",
	}
	for i := range len(six) {
		list = append(list, six[:i])
	}
	for _, v := range invalid {
		list = append(list, rowEncoding([]api.Value{v}), rowEncoding([]api.Value{value.Int(1), v}), rowEncoding([]api.Value{v, value.Int(1)}))
	}
	for _, s := range list {
		if got, e := value.Read(s); len(got) != 0 || e != api.ErrForm {
			t.Errorf("Read(%q): %v, %d", s, got, e)
		}
	}
}

// Whatever is read is the only row with these bytes.
func TestReadRandom(t *testing.T) {
	r := rand.New(rand.NewSource(10))
	read := 0
	for range 50000 {
		s := []byte(rowEncoding([]api.Value{randomValue(r), randomValue(r)}[:r.Intn(3)]))
		s[r.Intn(len(s))] = byte(r.Intn(8))
		row, e := value.Read(string(s))
		if e != api.OK {
			if len(row) != 0 || e != api.ErrForm {
				t.Errorf("Read(%q): %v, %d", s, row, e)
			}
			continue
		}
		read++
		if rowEncoding(row) != string(s) || len(row) > 6 || slices.ContainsFunc(row, func(v api.Value) bool { return !good(v) }) {
			t.Errorf("Read(%q): %v", s, row)
		}
	}
	if read == 0 {
		t.Error("nothing was read")
	}
}

func TestReadIsNew(t *testing.T) {
	s := value.Row(ascending[:3])
	a, _ := value.Read(s)
	b, _ := value.Read(s)
	a[0] = value.Int(99)
	_ = append(a[:1], value.Int(98))
	if !slices.Equal(b, ascending[:3]) {
		t.Errorf("two rows share memory: %v", b)
	}
}

// P3.1, P3.2: Show and Word.

func TestShow(t *testing.T) {
	for _, c := range []struct {
		v    api.Value
		want string
	}{
		{api.Value{}, "null"},
		{value.Int(0), "0"}, {value.Int(-1), "-1"}, {value.Int(120), "120"},
		{value.Int(math.MinInt), "-9223372036854775808"}, {value.Int(math.MaxInt), "9223372036854775807"},
		{value.Float(0.5), "f0.5"}, {value.Float(0), "f0"}, {value.Float(-1), "f-1"}, {value.Float(1e6), "f1e+06"},
		{value.Float(math.NaN()), "fNaN"}, {value.Float(math.Inf(1)), "f+Inf"}, {value.Float(math.Inf(-1)), "f-Inf"},
		{value.Text(""), "'"}, {value.Text("a"), "'a"}, {value.Text("'"), "''"}, {value.Text("a b'"), "'a b'"},
		{value.Text("null"), "'null"}, {value.Text("\x00\xff"), "'\x00\xff"}, {value.Text(longest), "'" + longest},
		// Values that aren't valid.
		{api.Value{Num: 5, Text: "a"}, "null"}, {api.Value{Kind: 4, Num: 5, Text: "a"}, "null"},
		{api.Value{Kind: -1}, "null"}, {api.Value{Kind: 257, Num: 1}, "null"}, {api.Value{Kind: math.MinInt}, "null"},
		{api.Value{Kind: api.Int, Num: 5, Text: "a"}, "5"}, {api.Value{Kind: api.Float, Num: one, Text: "a"}, "f1"},
		{float(negZero), "f0"}, {float(-1), "fNaN"},
		{api.Value{Kind: api.Text, Num: 5, Text: "a"}, "'a"}, {value.Text(longest + "b"), "'" + longest + "b"},
	} {
		if got := value.Show(c.v); got != c.want {
			t.Errorf("Show(%v): %q, want %q", c.v, got, c.want)
		}
	}
}

func TestWord(t *testing.T) {
	for _, v := range sample(11, 20000) {
		if !good(v) {
			continue
		}
		if got, e := value.Word(value.Show(v)); got != v || e != api.OK {
			t.Errorf("Word(%q): %v, %d; want %v", value.Show(v), got, e, v)
		}
	}
}

func TestWordForm(t *testing.T) {
	for _, s := range []string{
		"", " ", "Null", "NULL", "null ", " null", "nul", "nulll", "nil",
		"+1", "01", "00", "-0", "-", "+", "--1", "-01", "1 ", " 1", "1_000", "0x10", "0b1", "1.0", "1e3", "1f", "12a", "\x001", "1\x00",
		"9223372036854775808", "-9223372036854775809", "18446744073709551615", strings.Repeat("1", 1000),
		"f", "F1", "f ", "f+1", "f01", "f-0", "f1.0", "f.5", "f0x1p-2", "f1e6", "f1000000", "fnan", "f+NaN", "f-NaN", "fInf", "finf", "f+inf", "f1e999", "ff1", "f'1", "f1 ",
		"a", "\"a", "'" + longest + "a", "'" + strings.Repeat("\x00", 25), "\xff", "\xe2\x80\x99a",
	} {
		if got, e := value.Word(s); got != (api.Value{}) || e != api.ErrForm {
			t.Errorf("Word(%q): %v, %d", s, got, e)
		}
	}
}

// All short strings over the characters of numbers and floats are words of at most one value.
func TestWordAllShort(t *testing.T) {
	eachString("01-+.ef'", 5, func(s string) {
		v, e := value.Word(s)
		if e == api.OK {
			if !good(v) || value.Show(v) != s {
				t.Errorf("Word(%q): %v", s, v)
			}
			return
		}
		if v != (api.Value{}) || e != api.ErrForm {
			t.Errorf("Word(%q): %v, %d", s, v, e)
		}
		n, err := strconv.Atoi(s)
		if err == nil && strconv.Itoa(n) == s || strings.HasPrefix(s, "'") {
			t.Errorf("Word(%q): no word", s)
		}
		if _, e := real.Parse(strings.TrimPrefix(s, "f")); strings.HasPrefix(s, "f") && e == api.OK {
			t.Errorf("Word(%q): no word", s)
		}
	})
}
