package disk_test

import (
	"fmt"
	"math"
	"math/rand"
	"strings"
	"testing"

	"mortmain/api"
	"mortmain/disk"
)

// state is all that a disk tells.
type state struct {
	read  string
	down  bool
	safe  int
	left  int
	boots int
}

// String shortens what was read, which may be a whole disk.
func (s state) String() string {
	return fmt.Sprintf("%.40q of %d bytes, down %t, safe %d, left %d, boots %d", s.read, len(s.read), s.down, s.safe, s.left, s.boots)
}

func stateOf(d *disk.Disk) state {
	return state{d.Read(), d.Down(), d.Safe(), d.Left(), d.Boots()}
}

func wantState(t *testing.T, name string, d *disk.Disk, want state) {
	t.Helper()
	for range 2 { // asking changes nothing
		if got := stateOf(d); got != want {
			t.Errorf("%s: %v, want %v", name, got, want)
		}
	}
}

func wantErr(t *testing.T, name string, got, want api.Errno) {
	t.Helper()
	if got != want {
		t.Errorf("%s: error %d, want %d", name, got, want)
	}
}

// filled returns a disk with bytes that are safe, and bytes that aren't.
func filled(t *testing.T, size int, safe, loose string) *disk.Disk {
	t.Helper()
	d := disk.New(size)
	wantErr(t, "Append of "+safe, d.Append(safe), api.OK)
	wantErr(t, "Sync", d.Sync(), api.OK)
	wantErr(t, "Append of "+loose, d.Append(loose), api.OK)
	return d
}

func allBytes() string {
	list := make([]byte, 256)
	for i := range list {
		list[i] = byte(i)
	}
	return string(list)
}

// P5.1: the results of the calls.

func TestNewLimitsTheCapacity(t *testing.T) {
	for size, want := range map[int]int{
		math.MinInt:    0,
		-1:             0,
		0:              0,
		1:              1,
		2:              2,
		1 << 18:        1 << 18,
		api.MaxLog - 1: api.MaxLog - 1,
		api.MaxLog + 1: api.MaxLog,
		math.MaxInt:    api.MaxLog,
	} {
		d := disk.New(size)
		name := fmt.Sprint("New of ", size)
		wantState(t, name, d, state{left: want, boots: 1})
		wantErr(t, name, d.Append(strings.Repeat("x", want+1)), api.ErrFull)
		wantState(t, name, d, state{left: want, boots: 1})
		all := strings.Repeat("x", want)
		wantErr(t, name, d.Append(all), api.OK)
		wantErr(t, name, d.Append("x"), api.ErrFull)
		wantErr(t, name, d.Append(""), api.OK)
		wantState(t, name, d, state{read: all, boots: 1})
	}
}

func TestAppend(t *testing.T) {
	d := disk.New(6)
	wantErr(t, "ab", d.Append("ab"), api.OK)
	wantState(t, "ab", d, state{read: "ab", left: 4, boots: 1})
	wantErr(t, "nothing", d.Append(""), api.OK)
	wantErr(t, "c", d.Append("c"), api.OK)
	wantState(t, "c", d, state{read: "abc", left: 3, boots: 1})
	wantErr(t, "too much", d.Append("defg"), api.ErrFull)
	wantState(t, "too much", d, state{read: "abc", left: 3, boots: 1})
	wantErr(t, "just enough", d.Append("def"), api.OK)
	wantState(t, "just enough", d, state{read: "abcdef", boots: 1})
}

func TestAppendKeepsWhatIsSafe(t *testing.T) {
	d := filled(t, 5, "ab", "c")
	wantState(t, "before", d, state{read: "abc", safe: 2, left: 2, boots: 1})
	wantErr(t, "too much", d.Append("xyz"), api.ErrFull)
	wantState(t, "too much", d, state{read: "abc", safe: 2, left: 2, boots: 1})
}

func TestAppendAllBytes(t *testing.T) {
	s := allBytes()
	d := disk.New(600)
	for i := range len(s) {
		wantErr(t, "a byte", d.Append(s[i:i+1]), api.OK)
	}
	wantErr(t, "all", d.Append(s), api.OK)
	wantState(t, "all", d, state{read: s + s, left: 600 - 512, boots: 1})
}

func TestSync(t *testing.T) {
	d := disk.New(4)
	wantErr(t, "empty", d.Sync(), api.OK)
	wantState(t, "empty", d, state{left: 4, boots: 1})
	d.Append("ab")
	wantState(t, "not synced", d, state{read: "ab", left: 2, boots: 1})
	for range 2 {
		wantErr(t, "ab", d.Sync(), api.OK)
		wantState(t, "ab", d, state{read: "ab", safe: 2, left: 2, boots: 1})
	}
	d.Append("cd")
	wantErr(t, "full", d.Sync(), api.OK)
	wantState(t, "full", d, state{read: "abcd", safe: 4, boots: 1})
}

func TestTrim(t *testing.T) {
	for n := range 6 {
		d := filled(t, 9, "abc", "de")
		name := fmt.Sprint("Trim to ", n)
		for range 2 {
			wantErr(t, name, d.Trim(n), api.OK)
			wantState(t, name, d, state{read: "abcde"[:n], safe: n, left: 9 - n, boots: 1})
		}
		wantErr(t, name, d.Trim(n+1), api.ErrArg)
		wantErr(t, name, d.Append("xy"), api.OK)
		wantState(t, name, d, state{read: "abcde"[:n] + "xy", safe: n, left: 7 - n, boots: 1})
	}
}

func TestTrimInvalid(t *testing.T) {
	for _, n := range []int{math.MinInt, -3, -1, 6, 7, 9, 10, math.MaxInt} {
		d := filled(t, 9, "abc", "de")
		name := fmt.Sprint("Trim to ", n)
		wantErr(t, name, d.Trim(n), api.ErrArg)
		wantState(t, name, d, state{read: "abcde", safe: 3, left: 4, boots: 1})
	}
	empty := disk.New(3)
	wantErr(t, "empty", empty.Trim(0), api.OK)
	wantErr(t, "empty", empty.Trim(1), api.ErrArg)
	wantErr(t, "empty", empty.Trim(-1), api.ErrArg)
}

func TestTrimMakesRoom(t *testing.T) {
	d := filled(t, 3, "ab", "c")
	wantErr(t, "full", d.Append("x"), api.ErrFull)
	wantErr(t, "Trim", d.Trim(0), api.OK)
	wantErr(t, "room", d.Append("xyz"), api.OK)
	wantState(t, "room", d, state{read: "xyz", boots: 1})
}

func TestOff(t *testing.T) {
	for _, c := range []struct {
		safe, loose string
		keep        int
		turn        byte
		want        string
	}{
		{"abc", "de", 0, 0, "abc"},
		{"abc", "de", 1, 0, "abcd"},
		{"abc", "de", 2, 0, "abcde"},
		{"abc", "de", 1, 1, "abce"},
		{"abc", "de", 2, 1, "abcdd"},
		{"abc", "de", 2, 0xff, "abcd\x9a"},
		{"abc", "de", 2, 'e', "abcd\x00"},
		{"abc", "de", 0, 0xff, "abc"}, // a safe byte is never the last of what remains after them
		{"abc", "de", -1, 0xff, "abc"},
		{"abc", "de", math.MinInt, 0xff, "abc"},
		{"abc", "de", 3, 1, "abcdd"},
		{"abc", "de", 9, 1, "abcdd"},
		{"abc", "de", math.MaxInt, 1, "abcdd"},
		{"abc", "", 0, 0xff, "abc"},
		{"abc", "", 5, 0xff, "abc"},
		{"abc", "", -5, 0xff, "abc"},
		{"", "de", 0, 0xff, ""},
		{"", "de", 1, 0x80, "\xe4"},
		{"", "de", 2, 0x80, "d\xe5"},
		{"", "", 0, 0xff, ""},
		{"", "", 7, 0xff, ""},
		{"", "", math.MinInt, 0xff, ""},
	} {
		d := filled(t, 8, c.safe, c.loose)
		name := fmt.Sprintf("%+v", c)
		left := 8 - len(c.want)
		d.Off(c.keep, c.turn)
		wantState(t, name, d, state{down: true, safe: len(c.safe), left: left, boots: 1})
		d.On()
		wantState(t, name, d, state{read: c.want, safe: len(c.want), left: left, boots: 2})
	}
}

func TestEveryTurn(t *testing.T) {
	for turn := range 256 {
		d := filled(t, 8, "ab", "cde")
		d.Off(2, byte(turn))
		d.On()
		want := "abc" + string([]byte{'d' ^ byte(turn)})
		if got := d.Read(); got != want {
			t.Errorf("turn %d: %q, want %q", turn, got, want)
		}
	}
}

func TestErrorsWhileDown(t *testing.T) {
	d := filled(t, 5, "ab", "cd")
	d.Off(1, 0)
	want := state{down: true, safe: 2, left: 2, boots: 1}
	for _, s := range []string{"", "x", "xy", "too long"} {
		wantErr(t, "Append of "+s, d.Append(s), api.ErrDown)
	}
	wantErr(t, "Sync", d.Sync(), api.ErrDown)
	for _, n := range []int{math.MinInt, -1, 0, 2, 3, 4, math.MaxInt} {
		wantErr(t, fmt.Sprint("Trim to ", n), d.Trim(n), api.ErrDown)
	}
	wantState(t, "down", d, want)
	d.On()
	wantState(t, "up again", d, state{read: "abc", safe: 3, left: 2, boots: 2})
}

func TestOffWhileOff(t *testing.T) {
	d := filled(t, 9, "abc", "def")
	d.Off(2, 1)
	want := state{down: true, safe: 3, left: 4, boots: 1}
	wantState(t, "off", d, want)
	for _, keep := range []int{-1, 0, 1, 2, 9} {
		d.Off(keep, 0xff)
		wantState(t, "off again", d, want)
	}
	d.On()
	wantState(t, "on", d, state{read: "abcdd", safe: 5, left: 4, boots: 2})
}

func TestOnWhileOn(t *testing.T) {
	d := filled(t, 9, "abc", "def")
	want := state{read: "abcdef", safe: 3, left: 3, boots: 1}
	for range 3 {
		d.On()
		wantState(t, "on", d, want)
	}
}

func TestBoots(t *testing.T) {
	d := disk.New(4)
	for n := 1; n < 100; n++ {
		wantState(t, "on", d, state{left: 4, boots: n})
		d.Off(0, 0)
		wantState(t, "off", d, state{down: true, left: 4, boots: n})
		d.On()
	}
}

func TestWorkGoesOnAfterAFailure(t *testing.T) {
	d := filled(t, 6, "ab", "cdef")
	d.Off(1, 0)
	d.On()
	wantErr(t, "Append", d.Append("xyz"), api.OK)
	wantErr(t, "full", d.Append("!"), api.ErrFull)
	wantState(t, "Append", d, state{read: "abcxyz", safe: 3, boots: 2})
	d.Off(2, 0)
	d.On()
	wantState(t, "second failure", d, state{read: "abcxy", safe: 5, left: 1, boots: 3})
	wantErr(t, "Trim", d.Trim(1), api.OK)
	d.Off(0, 0xff)
	d.On()
	wantState(t, "after Trim", d, state{read: "a", safe: 1, left: 5, boots: 4})
}

func TestNil(t *testing.T) {
	var d *disk.Disk
	for _, s := range []string{"", "a", strings.Repeat("a", api.MaxLog+1)} {
		wantErr(t, "Append", d.Append(s), api.ErrNil)
	}
	wantErr(t, "Sync", d.Sync(), api.ErrNil)
	for _, n := range []int{math.MinInt, -1, 0, 1, math.MaxInt} {
		wantErr(t, "Trim", d.Trim(n), api.ErrNil)
	}
	d.Off(1, 1)
	wantState(t, "Off", d, state{})
	d.On()
	wantState(t, "On", d, state{})
}

func TestDisksAreIndependent(t *testing.T) {
	a, b := filled(t, 8, "abc", "de"), filled(t, 8, "abc", "de")
	a.Append("f")
	a.Sync()
	a.Trim(2)
	a.Off(0, 0)
	wantState(t, "the other one", b, state{read: "abcde", safe: 3, left: 3, boots: 1})
	a.On()
	a.Append("xyz")
	b.Off(2, 1)
	wantState(t, "the first one", a, state{read: "abxyz", safe: 2, left: 3, boots: 2})
}

func TestWhatWasReadStays(t *testing.T) {
	d := filled(t, 8, "abc", "de")
	before := d.Read()
	d.Off(2, 0xff)
	d.On()
	d.Trim(0)
	d.Append("vwxyz")
	if before != "abcde" {
		t.Errorf("%q", before)
	}
}

// model is a disk as the chapter describes it, with the bytes that are safe apart from the others.
type model struct {
	size, boots int
	safe, loose string
	down        bool
}

func (m *model) append(s string) api.Errno {
	if m.down {
		return api.ErrDown
	}
	if len(m.safe)+len(m.loose)+len(s) > m.size {
		return api.ErrFull
	}
	m.loose += s
	return api.OK
}

func (m *model) sync() api.Errno {
	if m.down {
		return api.ErrDown
	}
	m.safe, m.loose = m.safe+m.loose, ""
	return api.OK
}

func (m *model) trim(n int) api.Errno {
	if m.down {
		return api.ErrDown
	}
	all := m.safe + m.loose
	if n < 0 || n > len(all) {
		return api.ErrArg
	}
	m.safe, m.loose = all[:n], ""
	return api.OK
}

func (m *model) off(keep int, turn byte) {
	if m.down {
		return
	}
	m.down = true
	if keep < 0 {
		keep = 0
	}
	if keep > len(m.loose) {
		keep = len(m.loose)
	}
	if keep == 0 {
		m.loose = ""
		return
	}
	last := m.loose[keep-1] ^ turn
	m.loose = m.loose[:keep-1] + string([]byte{last})
}

func (m *model) on() {
	if !m.down {
		return
	}
	m.safe, m.loose, m.down = m.safe+m.loose, "", false
	m.boots++
}

func (m *model) state() state {
	s := state{down: m.down, safe: len(m.safe), left: m.size - len(m.safe) - len(m.loose), boots: m.boots}
	if !m.down {
		s.read = m.safe + m.loose
	}
	return s
}

// move is a call that changes a disk.
type move struct {
	call string
	n    int
	turn byte
	text string
}

func (v move) String() string {
	return fmt.Sprintf("%s(%d, %d, %.20q of %d bytes)", v.call, v.n, v.turn, v.text, len(v.text))
}

func (v move) onDisk(d *disk.Disk) api.Errno {
	switch v.call {
	case "Append":
		return d.Append(v.text)
	case "Sync":
		return d.Sync()
	case "Trim":
		return d.Trim(v.n)
	case "Off":
		d.Off(v.n, v.turn)
	case "On":
		d.On()
	}
	return api.OK
}

func (v move) onModel(m *model) api.Errno {
	switch v.call {
	case "Append":
		return m.append(v.text)
	case "Sync":
		return m.sync()
	case "Trim":
		return m.trim(v.n)
	case "Off":
		m.off(v.n, v.turn)
	case "On":
		m.on()
	}
	return api.OK
}

// play makes the moves on a disk and on a model, and compares them after each.
func play(t *testing.T, size int, moves []move) {
	t.Helper()
	d, m := disk.New(size), &model{size: size, boots: 1}
	for i, v := range moves {
		got, want := v.onDisk(d), v.onModel(m)
		if got != want {
			t.Fatalf("size %d, %v: error %d, want %d", size, moves[:i+1], got, want)
		}
		if got, want := stateOf(d), m.state(); got != want {
			t.Fatalf("size %d, %v: %v, want %v", size, moves[:i+1], got, want)
		}
	}
}

func TestAllShortSequences(t *testing.T) {
	moves := []move{
		{call: "Append", text: "a"},
		{call: "Append", text: "bcd"},
		{call: "Sync"},
		{call: "Trim", n: 0},
		{call: "Trim", n: 2},
		{call: "Off", n: 0, turn: 1},
		{call: "Off", n: 1, turn: 2},
		{call: "Off", n: 9, turn: 4},
		{call: "On"},
	}
	const length = 6
	list := make([]move, length)
	total := 1
	for range length {
		total *= len(moves)
	}
	for n := range total {
		for i := range list {
			list[i] = moves[n%len(moves)]
			n /= len(moves)
		}
		play(t, 5, list)
	}
}

func randomText(random *rand.Rand, most int) string {
	s := make([]byte, random.Intn(most+1))
	random.Read(s)
	return string(s)
}

// randomMove returns a move whose number is within the capacity, or a little beyond it.
func randomMove(random *rand.Rand, size int) move {
	n := random.Intn(size+5) - 2
	switch random.Intn(9) {
	case 0:
		return move{call: "Sync"}
	case 1:
		return move{call: "Trim", n: n}
	case 2:
		return move{call: "Off", n: n, turn: byte(random.Intn(256))}
	case 3, 4:
		return move{call: "On"}
	}
	return move{call: "Append", text: randomText(random, size/3+1)}
}

func TestRandomSequences(t *testing.T) {
	random := rand.New(rand.NewSource(1))
	for range 3000 {
		size := random.Intn(40)
		list := make([]move, 60)
		for i := range list {
			list[i] = randomMove(random, size)
		}
		play(t, size, list)
	}
}

func TestRandomSequencesOnTheLargestDisk(t *testing.T) {
	random := rand.New(rand.NewSource(2))
	list := make([]move, 300)
	for i := range list {
		list[i] = randomMove(random, api.MaxLog)
	}
	play(t, api.MaxLog, list)
}

// P5.2: what remains after a power failure.

// history is what was appended to a disk and not trimmed, and how much of it was synced.
type history struct {
	bytes  string
	synced int
}

// write makes calls that all succeed, and returns what they put on the disk.
func write(t *testing.T, random *rand.Rand, d *disk.Disk, h history) history {
	t.Helper()
	for range random.Intn(8) {
		switch random.Intn(6) {
		case 0:
			wantErr(t, "Sync", d.Sync(), api.OK)
			h.synced = len(h.bytes)
		case 1:
			n := random.Intn(len(h.bytes) + 1)
			wantErr(t, "Trim", d.Trim(n), api.OK)
			h = history{h.bytes[:n], n}
		default:
			s := randomText(random, 9)
			wantErr(t, "Append", d.Append(s), api.OK)
			h.bytes += s
		}
	}
	return h
}

func wantRemains(t *testing.T, got string, h history) {
	t.Helper()
	if len(got) < h.synced || got[:h.synced] != h.bytes[:h.synced] {
		t.Fatalf("%x remains, but %x was synced", got, h.bytes[:h.synced])
	}
	after := got[h.synced:]
	if after == "" {
		return
	}
	if whole := got[:len(got)-1]; len(got) > len(h.bytes) || h.bytes[:len(whole)] != whole {
		t.Fatalf("%x remains of %x", got, h.bytes)
	}
}

func TestSyncedBytesRemain(t *testing.T) {
	random := rand.New(rand.NewSource(3))
	for range 2000 {
		d := disk.New(api.MaxLog)
		h := history{}
		for range 10 {
			h = write(t, random, d, h)
			d.Off(random.Intn(60)-5, byte(random.Intn(256)))
			d.On()
			wantRemains(t, d.Read(), h)
			h = history{d.Read(), len(d.Read())}
		}
	}
}

// Every failure that the same bytes can suffer leaves the synced ones, and the number of others that is asked for.
func TestEveryFailure(t *testing.T) {
	const safe, loose = "the safe bytes", "the others"
	for keep := -2; keep < len(loose)+3; keep++ {
		for turn := range 256 {
			d := filled(t, 50, safe, loose)
			d.Off(keep, byte(turn))
			d.On()
			got := d.Read()
			wantRemains(t, got, history{safe + loose, len(safe)})
			if want := len(safe) + min(max(keep, 0), len(loose)); len(got) != want {
				t.Fatalf("keep %d: %d bytes, want %d", keep, len(got), want)
			}
		}
	}
}

func TestUnsyncedBytesAreSafeOnceThePowerReturned(t *testing.T) {
	d := filled(t, 9, "abc", "def")
	d.Off(2, 0)
	d.On()
	d.Off(0, 0xff)
	d.On()
	wantState(t, "second failure", d, state{read: "abcde", safe: 5, left: 4, boots: 3})
}

func TestTrimmedBytesAreGone(t *testing.T) {
	d := filled(t, 9, "abc", "def")
	wantErr(t, "Trim", d.Trim(2), api.OK)
	d.Off(9, 0xff)
	d.On()
	wantState(t, "cut within the safe bytes", d, state{read: "ab", safe: 2, left: 7, boots: 2})

	d = filled(t, 9, "abc", "def")
	wantErr(t, "Trim", d.Trim(5), api.OK)
	d.Off(0, 0xff)
	d.On()
	wantState(t, "cut after the safe bytes", d, state{read: "abcde", safe: 5, left: 4, boots: 2})
}

func ExampleDisk() {
	d := disk.New(8)
	d.Append("abc")
	d.Sync()
	d.Append("de")
	d.Off(1, 0)
	d.On()
	fmt.Println(d.Read())
	// Output: abcd
}
