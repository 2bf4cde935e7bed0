package pack_test

import (
	"encoding/binary"
	"fmt"
	"math"
	"math/rand"
	"strings"
	"testing"

	"mortmain/api"
	"mortmain/pack"
)

var edges = []int{
	0, 1, -1, 2, -2, 63, 64, -64, -65, 8191, 8192, -8192, -8193,
	1<<31 - 1, 1 << 31, -1 << 31, 1<<62 - 1, 1 << 62, -1 << 62, -1<<62 - 1,
	math.MaxInt - 1, math.MaxInt, math.MinInt, math.MinInt + 1,
}

func ints(list ...int) string {
	w := &pack.Writer{}
	w.Int(list...)
	return w.Bytes()
}

func strs(list ...string) string {
	w := &pack.Writer{}
	w.Str(list...)
	return w.Bytes()
}

func bools(list ...bool) string {
	w := &pack.Writer{}
	w.Bool(list...)
	return w.Bytes()
}

// around returns the numbers near every power of two, where lengths change.
func around() []int {
	list := append([]int{}, edges...)
	for shift := range 63 {
		for d := -2; d <= 2; d++ {
			n := 1<<shift + d
			list = append(list, n, -n)
		}
	}
	return list
}

func wantFailed(t *testing.T, name string, r *pack.Reader) {
	t.Helper()
	for range 2 {
		if got := r.End(); got != api.ErrForm {
			t.Errorf("%s: End is %d after a failure", name, got)
		}
		if got := r.Int(); got != 0 {
			t.Errorf("%s: Int is %d after a failure", name, got)
		}
		if got := r.Str(); got != "" {
			t.Errorf("%s: Str is %q after a failure", name, got)
		}
		if r.Bool() {
			t.Errorf("%s: Bool is true after a failure", name)
		}
		if got := r.Many(math.MaxInt); got != 0 {
			t.Errorf("%s: Many is %d after a failure", name, got)
		}
	}
}

// P1.1: the bytes of numbers, strings and booleans.

func TestIntBytes(t *testing.T) {
	for n, want := range map[int]string{
		0:           "\x00",
		-1:          "\x01",
		1:           "\x02",
		-2:          "\x03",
		63:          "\x7e",
		-64:         "\x7f",
		64:          "\x80\x01",
		-65:         "\x81\x01",
		150:         "\xac\x02",
		8191:        "\xfe\x7f",
		-8192:       "\xff\x7f",
		8192:        "\x80\x80\x01",
		1<<62 - 1:   "\xfe\xff\xff\xff\xff\xff\xff\xff\x7f",
		1 << 62:     "\x80\x80\x80\x80\x80\x80\x80\x80\x80\x01",
		math.MaxInt: "\xfe\xff\xff\xff\xff\xff\xff\xff\xff\x01",
		math.MinInt: "\xff\xff\xff\xff\xff\xff\xff\xff\xff\x01",
	} {
		if got := ints(n); got != want {
			t.Errorf("%d: %x, want %x", n, got, want)
		}
	}
}

func TestIntBytesAgreeWithVarint(t *testing.T) {
	for _, n := range around() {
		want := string(binary.AppendVarint(nil, int64(n)))
		if got := ints(n); got != want {
			t.Errorf("%d: %x, want %x", n, got, want)
		}
	}
}

func TestStrBytes(t *testing.T) {
	for _, c := range []struct{ s, want string }{
		{"", "\x00"},
		{"a", "\x02a"},
		{"ab", "\x04ab"},
		{"\x00\xff\x80", "\x06\x00\xff\x80"},
		{strings.Repeat("x", 63), "\x7e" + strings.Repeat("x", 63)},
		{strings.Repeat("x", 64), "\x80\x01" + strings.Repeat("x", 64)},
	} {
		if got := strs(c.s); got != c.want {
			t.Errorf("%q: %x, want %x", c.s, got, c.want)
		}
	}
}

func TestBoolBytes(t *testing.T) {
	if got := bools(true); got != "\x02" {
		t.Errorf("true: %x", got)
	}
	if got := bools(false); got != "\x00" {
		t.Errorf("false: %x", got)
	}
}

func TestListsAreAppendedInOrder(t *testing.T) {
	w := &pack.Writer{}
	w.Int(1, -1, 64)
	w.Str("ab", "", "c")
	w.Bool(true, false, true)
	w.Int()
	w.Str()
	w.Bool()
	w.Int(0)
	want := "\x02\x01\x80\x01" + "\x04ab\x00\x02c" + "\x02\x00\x02" + "\x00"
	if got := w.Bytes(); got != want {
		t.Errorf("%x, want %x", got, want)
	}
}

func TestZeroWriterIsEmpty(t *testing.T) {
	var w pack.Writer
	if got := w.Bytes(); got != "" {
		t.Errorf("%x", got)
	}
	w.Int(7)
	if got := w.Bytes(); got != "\x0e" {
		t.Errorf("%x", got)
	}
}

func TestNilWriterDoesNotPanic(t *testing.T) {
	var w *pack.Writer
	w.Int(1)
	w.Str("a")
	w.Bool(true)
	if got := w.Bytes(); got != "" {
		t.Errorf("%x", got)
	}
}

func TestBytesKeepsWhatWasAppended(t *testing.T) {
	w := &pack.Writer{}
	w.Int(1)
	first := w.Bytes()
	if again := w.Bytes(); again != first {
		t.Errorf("%x, then %x", first, again)
	}
	w.Int(2, 3, 4, 5, 6, 7, 8, 9)
	if first != "\x02" {
		t.Errorf("an earlier result became %x", first)
	}
	if got, want := w.Bytes(), "\x02\x04\x06\x08\x0a\x0c\x0e\x10\x12"; got != want {
		t.Errorf("%x, want %x", got, want)
	}
}

func TestWritersAreIndependent(t *testing.T) {
	v, w := &pack.Writer{}, &pack.Writer{}
	v.Int(1)
	w.Str("a")
	v.Int(2)
	if v.Bytes() != "\x02\x04" || w.Bytes() != "\x02a" {
		t.Errorf("%x, %x", v.Bytes(), w.Bytes())
	}
}

func TestArgumentsStay(t *testing.T) {
	room := []int{1, 2, 3, 4}
	words := []string{"a", "b", "c"}
	flags := []bool{true, false, true}
	w := &pack.Writer{}
	w.Int(room[:2]...)
	w.Str(words[:2]...)
	w.Bool(flags[:2]...)
	want := w.Bytes()
	if fmt.Sprint(room, words, flags) != "[1 2 3 4] [a b c] [true false true]" {
		t.Error(room, words, flags)
	}
	room[0], words[0], flags[0] = 9, "z", false
	if got := w.Bytes(); got != want {
		t.Errorf("%x, want %x", got, want)
	}
}

// P1.1: failures of a reader.

func TestIntTooFewBytes(t *testing.T) {
	for _, n := range around() {
		whole := ints(n)
		for size := range len(whole) {
			r := pack.Open(whole[:size])
			if got := r.Int(); got != 0 {
				t.Errorf("%x: %d", whole[:size], got)
			}
			wantFailed(t, fmt.Sprintf("%x", whole[:size]), r)
		}
	}
}

func TestIntNotShortest(t *testing.T) {
	for _, n := range []int{0, 1, -1, 63, -64, 64, 8192, 1<<62 - 1} {
		whole := ints(n)
		last := len(whole) - 1
		for zeros := 0; last+zeros+2 <= 12; zeros++ {
			s := whole[:last] + string([]byte{whole[last] | 0x80}) + strings.Repeat("\x80", zeros) + "\x00"
			r := pack.Open(s)
			if got := r.Int(); got != 0 {
				t.Errorf("%x: %d", s, got)
			}
			wantFailed(t, fmt.Sprintf("%x", s), r)
		}
	}
}

func TestIntAboveSixtyFourBits(t *testing.T) {
	nine := strings.Repeat("\xff", 9)
	for b := range 256 {
		s := nine + string([]byte{byte(b)})
		if b == 1 {
			if r := pack.Open(s); r.Int() != math.MinInt || r.End() != api.OK {
				t.Errorf("%x isn't the least number", s)
			}
			continue
		}
		for _, tail := range []string{"", "\x00", "\x01", "\x80\x01"} {
			r := pack.Open(s + tail)
			if got := r.Int(); got != 0 {
				t.Errorf("%x: %d", s+tail, got)
			}
			wantFailed(t, fmt.Sprintf("%x", s+tail), r)
		}
	}
	for _, zeros := range []int{10, 11, 18, 100} {
		s := strings.Repeat("\x80", zeros) + "\x01"
		r := pack.Open(s)
		if got := r.Int(); got != 0 {
			t.Errorf("%x: %d", s, got)
		}
		wantFailed(t, fmt.Sprintf("%x", s), r)
	}
}

func TestStrFailures(t *testing.T) {
	for _, s := range []string{
		"",         // no length
		"\x80",     // half a length
		"\x80\x00", // a length not in its shortest encoding
		"\x01",     // a length of -1
		"\x01abc",
		ints(math.MinInt),
		ints(math.MinInt) + "abc",
		"\x02",   // a length of 1, nothing left
		"\x06ab", // a length of 3, two left
		ints(64) + strings.Repeat("x", 63),
		ints(math.MaxInt) + "abc",
		ints(1<<32) + "abc",
	} {
		r := pack.Open(s)
		if got := r.Str(); got != "" {
			t.Errorf("%x: %q", s, got)
		}
		wantFailed(t, fmt.Sprintf("%x", s), r)
	}
}

func TestStrTakesExactlyWhatIsLeft(t *testing.T) {
	r := pack.Open("\x06abc")
	if got := r.Str(); got != "abc" || r.End() != api.OK {
		t.Errorf("%q, %d", got, r.End())
	}
}

func TestBoolFailures(t *testing.T) {
	for _, n := range around() {
		if n == 0 || n == 1 {
			continue
		}
		r := pack.Open(ints(n) + "\x02\x02")
		if r.Bool() {
			t.Errorf("%d is true", n)
		}
		wantFailed(t, fmt.Sprint(n), r)
	}
	for _, s := range []string{"", "\x80", "\x82\x00", "\x80\x00"} {
		r := pack.Open(s)
		if r.Bool() {
			t.Errorf("%x is true", s)
		}
		wantFailed(t, fmt.Sprintf("%x", s), r)
	}
}

func TestMany(t *testing.T) {
	for _, c := range []struct {
		n, bound, left int
		ok             bool
	}{
		{0, 0, 0, true},
		{0, 5, 0, true},
		{0, -1, 9, false},
		{1, 0, 9, false},
		{1, 1, 1, true},
		{1, 1, 0, false},
		{3, 3, 3, true},
		{3, 4, 9, true},
		{3, 2, 9, false},
		{3, 9, 2, false},
		{64, 64, 64, true},
		{64, 64, 63, false},
		{64, 64, 65, true},
		{-1, 9, 9, false},
		{-1, -1, 9, false},
		{-5, -1, 9, false},
		{math.MinInt, math.MaxInt, 9, false},
		{math.MinInt, math.MinInt, 9, false},
		{math.MaxInt, math.MaxInt, 9, false},
		{math.MaxInt, 9, 9, false},
		{0, math.MinInt, 0, false},
		{9, math.MaxInt, 9, true},
	} {
		name := fmt.Sprintf("%+v", c)
		r := pack.Open(ints(c.n) + strings.Repeat("\x02", c.left))
		got := r.Many(c.bound)
		if !c.ok {
			if got != 0 {
				t.Errorf("%s: %d", name, got)
			}
			wantFailed(t, name, r)
			continue
		}
		if got != c.n {
			t.Errorf("%s: %d", name, got)
		}
		for range c.left {
			if r.Int() != 1 {
				t.Errorf("%s: what follows isn't read", name)
			}
		}
		if r.End() != api.OK {
			t.Errorf("%s: End is %d", name, r.End())
		}
	}
	for _, s := range []string{"", "\x80", "\x82\x00"} {
		r := pack.Open(s)
		if got := r.Many(9); got != 0 {
			t.Errorf("%x: %d", s, got)
		}
		wantFailed(t, fmt.Sprintf("%x", s), r)
	}
}

func TestValuesBeforeAFailureAreRead(t *testing.T) {
	r := pack.Open("\x0e\x04ab\x02\x04\x02\x02\x02")
	if r.Int() != 7 || r.Str() != "ab" || !r.Bool() {
		t.Error("what precedes the failure isn't read")
	}
	if got := r.Many(1); got != 0 {
		t.Errorf("Many is %d", got)
	}
	wantFailed(t, "a Many above its bound", r)
}

func TestEnd(t *testing.T) {
	if got := pack.Open("").End(); got != api.OK {
		t.Errorf("no bytes: %d", got)
	}
	r := pack.Open("\x02\x04")
	for i, want := range []int{1, 2} {
		for range 2 {
			if got := r.End(); got != api.ErrForm {
				t.Errorf("bytes left before number %d: %d", i, got)
			}
		}
		if got := r.Int(); got != want {
			t.Errorf("End disturbed the reader: %d, want %d", got, want)
		}
	}
	for range 2 {
		if got := r.End(); got != api.OK {
			t.Errorf("everything read: %d", got)
		}
	}
	if got := r.Int(); got != 0 {
		t.Errorf("beyond the end: %d", got)
	}
	wantFailed(t, "beyond the end", r)
}

func TestNilReader(t *testing.T) {
	var r *pack.Reader
	for range 2 {
		if r.Int() != 0 || r.Str() != "" || r.Bool() || r.Many(9) != 0 || r.Many(-1) != 0 {
			t.Error("a nil reader has values")
		}
		if got := r.End(); got != api.ErrNil {
			t.Errorf("End is %d", got)
		}
	}
}

func TestReadersAreIndependent(t *testing.T) {
	a, b := pack.Open("\x02\x04"), pack.Open("\x02\x04")
	a.Int()
	a.Bool()
	if b.Int() != 1 || b.Int() != 2 || b.End() != api.OK {
		t.Error("a failure of one reader reached another")
	}
	wantFailed(t, "the first", a)
}

// For all bytes, a number is accepted exactly if it is the encoding of the result.
func checkInt(t *testing.T, s string) {
	t.Helper()
	want, size := binary.Varint([]byte(s))
	valid := size > 0 && ints(int(want)) == s[:size]
	r := pack.Open(s)
	got := r.Int()
	if !valid {
		if got != 0 || r.End() != api.ErrForm || r.Int() != 0 {
			t.Errorf("%x: %d, %d", s, got, r.End())
		}
		return
	}
	ended := api.ErrForm
	if size == len(s) {
		ended = api.OK
	}
	if got != int(want) || r.End() != ended {
		t.Errorf("%x: %d, %d; want %d, %d", s, got, r.End(), want, ended)
	}
}

func TestIntOfAllShortBytes(t *testing.T) {
	for n := range 1 << 16 {
		checkInt(t, string([]byte{byte(n)}))
		checkInt(t, string([]byte{byte(n), byte(n >> 8)}))
		checkInt(t, string([]byte{byte(n) | 0x80, byte(n >> 8), 0}))
	}
}

func TestIntOfRandomBytes(t *testing.T) {
	random := rand.New(rand.NewSource(1))
	for range 50000 {
		buf := make([]byte, random.Intn(14))
		for i := range buf {
			buf[i] = byte(random.Intn(256))
			if random.Intn(4) > 0 {
				buf[i] |= 0x80
			}
		}
		checkInt(t, string(buf))
	}
}

// P1.2: what was encoded is decoded again.

func TestIntRoundTrip(t *testing.T) {
	list := around()
	r := pack.Open(ints(list...))
	for _, n := range list {
		if got := r.Int(); got != n {
			t.Errorf("%d, want %d", got, n)
		}
	}
	if r.End() != api.OK {
		t.Errorf("End is %d", r.End())
	}
}

func TestStrRoundTrip(t *testing.T) {
	list := []string{"", "a", "\x00", "\xff\x80", "é", strings.Repeat("\x01", 63), strings.Repeat("\x80", 64), strings.Repeat("z", 20000), ""}
	for n := range 256 {
		list = append(list, string([]byte{byte(n)}))
	}
	r := pack.Open(strs(list...))
	for _, s := range list {
		if got := r.Str(); got != s {
			t.Errorf("%q, want %q", got, s)
		}
	}
	if r.End() != api.OK {
		t.Errorf("End is %d", r.End())
	}
}

type item struct {
	kind int
	num  int
	text string
	flag bool
}

func randomItem(random *rand.Rand) item {
	switch random.Intn(3) {
	case 0:
		return item{kind: 0, num: int(random.Uint64()) >> random.Intn(64)}
	case 1:
		buf := make([]byte, random.Intn(100))
		random.Read(buf)
		return item{kind: 1, text: string(buf)}
	}
	return item{kind: 2, flag: random.Intn(2) == 0}
}

func put(w *pack.Writer, it item) {
	switch it.kind {
	case 0:
		w.Int(it.num)
	case 1:
		w.Str(it.text)
	case 2:
		w.Bool(it.flag)
	}
}

func take(r *pack.Reader, kind int) item {
	switch kind {
	case 0:
		return item{kind: kind, num: r.Int()}
	case 1:
		return item{kind: kind, text: r.Str()}
	}
	return item{kind: kind, flag: r.Bool()}
}

func TestMixedRoundTrip(t *testing.T) {
	random := rand.New(rand.NewSource(2))
	for range 2000 {
		list := make([]item, random.Intn(20))
		w := &pack.Writer{}
		for i := range list {
			list[i] = randomItem(random)
			put(w, list[i])
		}
		r := pack.Open(w.Bytes())
		for i, it := range list {
			if got := take(r, it.kind); got != it {
				t.Fatalf("item %d: %+v, want %+v", i, got, it)
			}
		}
		if r.End() != api.OK {
			t.Fatalf("End is %d", r.End())
		}
	}
}

func TestManyRoundTrip(t *testing.T) {
	for _, size := range []int{0, 1, 63, 64, 300} {
		w := &pack.Writer{}
		w.Int(size)
		for n := range size {
			w.Int(n)
		}
		r := pack.Open(w.Bytes())
		if got := r.Many(size); got != size {
			t.Errorf("%d, want %d", got, size)
		}
		for n := range size {
			if got := r.Int(); got != n {
				t.Errorf("%d, want %d", got, n)
			}
		}
		if r.End() != api.OK {
			t.Errorf("End is %d", r.End())
		}
	}
}

func TestDifferentValuesHaveDifferentBytes(t *testing.T) {
	seen := map[string]string{}
	note := func(name, s string) {
		if other, ok := seen[s]; ok && other != name {
			t.Errorf("%s and %s: %x", other, name, s)
		}
		seen[s] = name
	}
	for _, n := range around() {
		for _, m := range edges {
			note(fmt.Sprint(n, m), ints(n, m))
		}
	}
	clear(seen)
	words := []string{"", "\x00", "\x02", "a", "aa", "\x02a", "\x00\x00", "a\x00", "\x04aa"}
	for _, a := range words {
		for _, b := range words {
			for _, c := range words {
				note(fmt.Sprintf("%q %q %q", a, b, c), strs(a, b, c))
			}
		}
	}
	clear(seen)
	for n := range 8 {
		a, b, c := n&1 == 1, n&2 == 2, n&4 == 4
		note(fmt.Sprint(a, b, c), bools(a, b, c))
	}
}
