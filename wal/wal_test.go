package wal_test

import (
	"fmt"
	"hash/crc32"
	"math/rand"
	"slices"
	"strings"
	"testing"

	"mortmain/api"
	"mortmain/disk"
	"mortmain/wal"
)

// frameOf returns the bytes of a record on the disk, with the checksum of the library.
func frameOf(s string) string {
	head := string([]byte{byte(len(s) / 256), byte(len(s) % 256)})
	c := crc32.ChecksumIEEE([]byte(head + s))
	return head + s + string([]byte{byte(c >> 24), byte(c >> 16), byte(c >> 8), byte(c)})
}

func framesOf(records ...string) string {
	var b strings.Builder
	for _, s := range records {
		b.WriteString(frameOf(s))
	}
	return b.String()
}

// brief shortens what may be a whole disk.
func brief(s string) string {
	return fmt.Sprintf("%.60q of %d bytes", s, len(s))
}

func wantErr(t *testing.T, name string, got, want api.Errno) {
	t.Helper()
	if got != want {
		t.Fatalf("%s: error %d, want %d", name, got, want)
	}
}

// wantDisk compares the contents of a disk, and how many bytes of them are safe.
func wantDisk(t *testing.T, name string, d *disk.Disk, read string, safe int) {
	t.Helper()
	if got := d.Read(); got != read {
		t.Fatalf("%s: the disk has %s, want %s", name, brief(got), brief(read))
	}
	if got := d.Safe(); got != safe {
		t.Fatalf("%s: %d bytes are safe, want %d", name, got, safe)
	}
}

func wantLog(t *testing.T, name string, l *wal.Log, length, room int) {
	t.Helper()
	for range 2 { // asking changes nothing
		if l.Len() != length || l.Room() != room {
			t.Fatalf("%s: Len %d and Room %d, want %d and %d", name, l.Len(), l.Room(), length, room)
		}
	}
}

// mustOpen opens the log of a disk that has these records.
func mustOpen(t *testing.T, name string, d *disk.Disk, want ...string) *wal.Log {
	t.Helper()
	l, got, err := wal.Open(d)
	wantErr(t, name, err, api.OK)
	if l == nil {
		t.Fatalf("%s: no log", name)
	}
	if !slices.Equal(got, want) {
		t.Fatalf("%s: records %.60q, want %.60q", name, got, want)
	}
	if l.Len() != len(want) {
		t.Fatalf("%s: Len %d, want %d", name, l.Len(), len(want))
	}
	return l
}

func mustAdd(t *testing.T, l *wal.Log, records ...string) {
	t.Helper()
	for _, s := range records {
		wantErr(t, "Add of "+brief(s), l.Add(s), api.OK)
	}
}

func wantScan(t *testing.T, s string, taken int, want ...string) {
	t.Helper()
	got, n := wal.Scan(s)
	if !slices.Equal(got, want) || n != taken {
		t.Errorf("%s: records %.60q, %d bytes, want %.60q, %d bytes", brief(s), got, n, want, taken)
	}
}

func fail(d *disk.Disk, keep int, turn byte) {
	d.Off(keep, turn)
	d.On()
}

func randomBytes(random *rand.Rand, length int) string {
	b := make([]byte, length)
	random.Read(b)
	return string(b)
}

// P6.1: Size and Scan.

func TestSize(t *testing.T) {
	for length, want := range map[int]int{0: 6, 1: 7, 3: 9, 255: 261, 256: 262, api.MaxRecord: 65541, api.MaxRecord + 1: 65542, 1 << 20: 1<<20 + 6} {
		if got := wal.Size(strings.Repeat("\xff", length)); got != want {
			t.Errorf("%d bytes: %d, want %d", length, got, want)
		}
	}
}

func TestSizeIsWhatTheRecordTakes(t *testing.T) {
	for _, length := range []int{0, 1, 2, 100, 255, 256, 257, api.MaxRecord} {
		d := disk.New(api.MaxLog)
		s := strings.Repeat("a", length)
		mustAdd(t, mustOpen(t, "empty disk", d), s)
		if got, want := len(d.Read()), wal.Size(s); got != want {
			t.Errorf("%d bytes take %d, want %d", length, got, want)
		}
	}
}

func TestScan(t *testing.T) {
	const empty, abc = "\x00\x00\x41\xd9\x12\xff", "\x00\x03abc\x1e\xf2\xc0\x23"
	if frameOf("") != empty {
		t.Fatalf("the frame of nothing: %x", frameOf(""))
	}
	if frameOf("abc") != abc {
		t.Fatalf("the frame of abc: %x", frameOf("abc"))
	}
	wantScan(t, "", 0)
	wantScan(t, empty, 6, "")
	wantScan(t, abc, 9, "abc")
	wantScan(t, empty+empty+empty, 18, "", "", "")
	wantScan(t, abc+empty+abc, 24, "abc", "", "abc")
	wantScan(t, abc+"\x00", 9, "abc")
	wantScan(t, abc+"xyz", 9, "abc")
	wantScan(t, empty+"\xff\xff"+abc, 6, "")
}

func TestScanOfNoRecord(t *testing.T) {
	for _, s := range []string{
		"\x00",
		"\x00\x00",
		"abc",
		"\x00\x00\x00\x00\x00\x00",            // a disk of zeros
		"\x00\x01a\xff\xff\xff\xff",           // another tail
		"\x00\x00\xff\x12\xd9\x41",            // the least significant byte of the tail first
		"\x03\x00abc\x1e\xf2\xc0\x23",         // the least significant byte of the length first
		"\x00\x03abc\x35\x24\x41\xc2",         // the checksum of the bytes without the length
		"\x00\x02abc\x1e\xf2\xc0\x23",         // a smaller length
		"\x00\x04abc\x1e\xf2\xc0\x23",         // a greater one
		"\xff\xffabc\x1e\xf2\xc0\x23",         // the greatest one
		"\x00\x03abc",                         // no tail
		"\x00\x03abc\x42\xf3\xcf",             // a part of it
		" \x00\x03abc\x1e\xf2\xc0\x23",        // a byte in front
		"\x00\x03\x00\x03abc\x1e\xf2\xc0\x23", // the length twice
	} {
		wantScan(t, s, 0)
		wantScan(t, s+frameOf("abc"), 0)
		wantScan(t, frameOf("one")+s, 9, "one")
		wantScan(t, frameOf("one")+s+frameOf("two"), 9, "one")
	}
}

// A checksum that fits doesn't help if the length doesn't.
func TestScanOfAWrongLength(t *testing.T) {
	const s = "abcdef"
	for length := range 1 << 16 {
		head := string([]byte{byte(length >> 8), byte(length)})
		c := crc32.ChecksumIEEE([]byte(head + s))
		all := head + s + string([]byte{byte(c >> 24), byte(c >> 16), byte(c >> 8), byte(c)})
		if length == len(s) {
			wantScan(t, all, len(all), s)
		} else {
			wantScan(t, all, 0)
		}
	}
}

func TestScanOfEveryPrefix(t *testing.T) {
	records := []string{"one", "", "a longer record", "\x00\x00", strings.Repeat("x", 300), ""}
	all := framesOf(records...)
	whole, taken := 0, 0
	for n := range len(all) + 1 {
		if whole < len(records) && n == taken+len(frameOf(records[whole])) {
			whole, taken = whole+1, n
		}
		wantScan(t, all[:n], taken, records[:whole]...)
	}
	if whole != len(records) {
		t.Errorf("%d records", whole)
	}
}

func TestScanOfEveryChangedBit(t *testing.T) {
	records := []string{"one", "", "three"}
	all := framesOf(records...)
	for i := range 8 * len(all) {
		whole, taken := 0, 0
		for taken+len(frameOf(records[whole])) <= i/8 {
			taken += len(frameOf(records[whole]))
			whole++
		}
		b := []byte(all)
		b[i/8] ^= 1 << (i % 8)
		wantScan(t, string(b), taken, records[:whole]...)
	}
}

func TestScanOfAllLengths(t *testing.T) {
	random := rand.New(rand.NewSource(1))
	for _, length := range []int{254, 255, 256, 257, 511, 512, 32767, 32768, 65279, 65280, 65534, 65535} {
		s := randomBytes(random, length)
		frame := frameOf(s)
		wantScan(t, frame, len(frame), s)
		wantScan(t, frame[:len(frame)-1], 0)
		wantScan(t, frame+frame+"?", 2*len(frame), s, s)
	}
}

// The records of a sequence aren't limited by the capacity of a disk.
func TestScanBeyondADisk(t *testing.T) {
	s := strings.Repeat("y", api.MaxRecord)
	records := slices.Repeat([]string{s}, 6)
	wantScan(t, framesOf(records...)+"torn", 6*(api.MaxRecord+6), records...)
}

// scanOf finds the records as the chapter describes them: at each place it tries every length.
func scanOf(s string) ([]string, int) {
	var records []string
	taken := 0
	for {
		found := false
		for length := 0; taken+length+6 <= len(s) && length <= api.MaxRecord && !found; length++ {
			record := s[taken+2 : taken+2+length]
			if strings.HasPrefix(s[taken:], frameOf(record)) {
				records, found = append(records, record), true
				taken += length + 6
			}
		}
		if !found {
			return records, taken
		}
	}
}

func TestScanOfRandomBytes(t *testing.T) {
	random := rand.New(rand.NewSource(2))
	for range 3000 {
		var b []byte
		for range random.Intn(6) {
			s := frameOf(randomBytes(random, random.Intn(12)))
			if random.Intn(6) == 0 {
				s = s[:random.Intn(len(s))]
			}
			b = append(b, s...)
		}
		if len(b) > 0 && random.Intn(2) == 0 {
			b[random.Intn(len(b))] ^= byte(random.Intn(256))
		}
		want, taken := scanOf(string(b))
		wantScan(t, string(b), taken, want...)
	}
}

// P6.1: Open.

func TestOpenNil(t *testing.T) {
	l, records, err := wal.Open(nil)
	if l != nil || len(records) != 0 || err != api.ErrNil {
		t.Errorf("%v, %q, %d", l, records, err)
	}
}

func TestOpenWhileDown(t *testing.T) {
	d := disk.New(100)
	d.Append(frameOf("one") + "torn")
	d.Sync()
	d.Off(0, 0)
	l, records, err := wal.Open(d)
	if l != nil || len(records) != 0 || err != api.ErrDown {
		t.Errorf("%v, %q, %d", l, records, err)
	}
	d.On()
	wantDisk(t, "not trimmed while down", d, frameOf("one")+"torn", 13)
	mustOpen(t, "on again", d, "one")
}

func TestOpenOfAnEmptyDisk(t *testing.T) {
	for _, size := range []int{0, 5, 6, api.MaxLog} {
		d := disk.New(size)
		l := mustOpen(t, "empty disk", d)
		wantLog(t, "empty disk", l, 0, size)
		wantDisk(t, "empty disk", d, "", 0)
	}
}

func TestOpenTrims(t *testing.T) {
	for _, c := range []struct {
		contents string
		want     []string
	}{
		{"", nil},
		{"junk", nil},
		{frameOf("a"), []string{"a"}},
		{frameOf("a") + "j", []string{"a"}},
		{framesOf("a", "", "bc") + frameOf("torn")[:9], []string{"a", "", "bc"}},
		{"j" + frameOf("a"), nil},
		{frameOf("a") + "j" + frameOf("b"), []string{"a"}},
	} {
		for _, synced := range []bool{false, true} {
			d := disk.New(100)
			d.Append(c.contents)
			if synced {
				d.Sync()
			}
			name := fmt.Sprintf("%q, synced %t", c.contents, synced)
			l := mustOpen(t, name, d, c.want...)
			left := framesOf(c.want...)
			wantDisk(t, name, d, left, len(left))
			wantLog(t, name, l, len(c.want), 100-len(left))
		}
	}
}

// Trimming makes the records safe, also if there is nothing to cut off.
func TestOpenMakesSafe(t *testing.T) {
	d := disk.New(100)
	mustAdd(t, mustOpen(t, "empty disk", d), "one", "two")
	wantDisk(t, "added", d, framesOf("one", "two"), 0)
	mustOpen(t, "opened", d, "one", "two")
	wantDisk(t, "opened", d, framesOf("one", "two"), 18)
	fail(d, 0, 0xff)
	mustOpen(t, "failed", d, "one", "two")
}

// P6.1: the calls of a log.

func TestAdd(t *testing.T) {
	d := disk.New(100)
	l := mustOpen(t, "empty disk", d)
	var added []string
	for _, s := range []string{"one", "", "\x00", "one", "\xff\xfe"} {
		mustAdd(t, l, s)
		added = append(added, s)
		all := framesOf(added...)
		wantDisk(t, brief(s), d, all, 0)
		wantLog(t, brief(s), l, len(added), 100-len(all))
	}
}

func TestAddOfTheLongestRecord(t *testing.T) {
	random := rand.New(rand.NewSource(3))
	s := randomBytes(random, api.MaxRecord)
	d := disk.New(api.MaxLog)
	l := mustOpen(t, "empty disk", d)
	mustAdd(t, l, s)
	wantDisk(t, "the longest", d, frameOf(s), 0)
	for _, more := range []int{1, 2, 65536, api.MaxLog} {
		wantErr(t, fmt.Sprint(more, " too long"), l.Add(s+strings.Repeat("x", more)), api.ErrLong)
		wantDisk(t, fmt.Sprint(more, " too long"), d, frameOf(s), 0)
		wantLog(t, fmt.Sprint(more, " too long"), l, 1, api.MaxLog-65541)
	}
	mustOpen(t, "again", d, s)
}

func TestAddOnAFullDisk(t *testing.T) {
	const s = "record"
	for size := range 3 * wal.Size(s) {
		d := disk.New(size)
		l := mustOpen(t, "empty disk", d)
		fit := size / wal.Size(s)
		added := slices.Repeat([]string{s}, fit)
		mustAdd(t, l, added...)
		for range 2 {
			wantErr(t, fmt.Sprint("size ", size), l.Add(s), api.ErrFull)
			wantDisk(t, fmt.Sprint("size ", size), d, framesOf(added...), 0)
			wantLog(t, fmt.Sprint("size ", size), l, fit, size-fit*wal.Size(s))
		}
		if l.Room() >= wal.Size("") { // a smaller one may still fit
			mustAdd(t, l, "")
			added = append(added, "")
		}
		mustOpen(t, fmt.Sprint("size ", size), d, added...)
	}
}

func TestErrorsOfAddInOrder(t *testing.T) {
	long := strings.Repeat("x", api.MaxRecord+1)
	d := disk.New(8)
	l := mustOpen(t, "empty disk", d)
	wantErr(t, "too long for a record, and for the disk", l.Add(long), api.ErrLong)
	wantErr(t, "too long for the disk", l.Add(long[1:]), api.ErrFull)
	d.Off(0, 0)
	for _, s := range []string{"", "a", "abc", long[1:], long} {
		wantErr(t, "down, "+brief(s), l.Add(s), api.ErrDown)
	}
	var none *wal.Log
	for _, s := range []string{"", "a", long} {
		wantErr(t, "nil, "+brief(s), none.Add(s), api.ErrNil)
	}
}

func TestForce(t *testing.T) {
	d := disk.New(100)
	l := mustOpen(t, "empty disk", d)
	wantErr(t, "no records", l.Force(), api.OK)
	mustAdd(t, l, "one", "two")
	for range 2 {
		wantErr(t, "two records", l.Force(), api.OK)
		wantDisk(t, "two records", d, framesOf("one", "two"), 18)
		wantLog(t, "two records", l, 2, 82)
	}
	mustAdd(t, l, "three")
	wantDisk(t, "one more", d, framesOf("one", "two", "three"), 18)
	d.Off(0, 0)
	wantErr(t, "down", l.Force(), api.ErrDown)
	d.On()
	wantDisk(t, "on again", d, framesOf("one", "two"), 18)
}

func TestNilLog(t *testing.T) {
	var l *wal.Log
	wantErr(t, "Add", l.Add("a"), api.ErrNil)
	wantErr(t, "Force", l.Force(), api.ErrNil)
	wantLog(t, "nil", l, 0, 0)
}

// While the power is off, Room tells what the disk tells, and Len what the log knows.
func TestLogWhileDown(t *testing.T) {
	d := disk.New(100)
	l := mustOpen(t, "empty disk", d)
	mustAdd(t, l, "one", "two", "three")
	d.Off(4, 0)
	wantErr(t, "Add", l.Add("four"), api.ErrDown)
	wantErr(t, "Force", l.Force(), api.ErrDown)
	wantLog(t, "down", l, 3, 96)
	d.On()
	wantLog(t, "on again", l, 3, 96)
}

// Two logs of one disk append to the same bytes, but each counts what it found and added itself.
func TestTwoLogsOfOneDisk(t *testing.T) {
	d := disk.New(100)
	a := mustOpen(t, "a", d)
	mustAdd(t, a, "one")
	b := mustOpen(t, "b", d, "one")
	mustAdd(t, b, "two", "three")
	mustAdd(t, a, "four")
	all := framesOf("one", "two", "three", "four")
	wantLog(t, "a", a, 2, 100-len(all))
	wantLog(t, "b", b, 3, 100-len(all))
	wantDisk(t, "both", d, all, 9)
	wantErr(t, "Force of a", a.Force(), api.OK)
	wantDisk(t, "both", d, all, len(all))
	mustOpen(t, "c", d, "one", "two", "three", "four")
}

func TestLogsOfTwoDisksAreIndependent(t *testing.T) {
	c, d := disk.New(50), disk.New(60)
	a, b := mustOpen(t, "a", c), mustOpen(t, "b", d)
	mustAdd(t, a, "one", "two")
	wantErr(t, "Force", a.Force(), api.OK)
	c.Off(0, 0)
	wantLog(t, "the other one", b, 0, 60)
	mustAdd(t, b, "three")
	wantDisk(t, "the other one", d, frameOf("three"), 0)
	wantLog(t, "the first one", a, 2, 32)
}

// A record that was returned doesn't change with the disk, and the list is the caller's.
func TestResultsAreNotShared(t *testing.T) {
	d := disk.New(100)
	mustAdd(t, mustOpen(t, "empty disk", d), "one", "two")
	_, records, _ := wal.Open(d)
	d.Trim(0)
	d.Append(strings.Repeat("?", 90))
	if !slices.Equal(records, []string{"one", "two"}) {
		t.Errorf("%q", records)
	}
	all := framesOf("one", "two")
	first, _ := wal.Scan(all)
	first[0] = "changed"
	wantScan(t, all, 18, "one", "two")
}

// model is a disk and the number of records of each of its logs.
type model struct {
	disk   *disk.Disk
	counts []int
}

// move is a call of Open, of the log with a number, or of the disk.
type move struct {
	call string
	log  int
	n    int
	turn byte
	text string
}

func (v move) String() string {
	return fmt.Sprintf("%s(%d, %d, %d, %s)", v.call, v.log, v.n, v.turn, brief(v.text))
}

// onDisk makes a move of the disk alone.
func (v move) onDisk(d *disk.Disk) {
	switch v.call {
	case "Off":
		d.Off(v.n, v.turn)
	case "On":
		d.On()
	case "Append":
		d.Append(v.text)
	case "Sync":
		d.Sync()
	case "Trim":
		d.Trim(v.n)
	}
}

func (v move) onModel(m *model) ([]string, api.Errno) {
	switch v.call {
	case "Open":
		if m.disk.Down() {
			return nil, api.ErrDown
		}
		records, taken := scanOf(m.disk.Read())
		m.disk.Trim(taken)
		m.counts = append(m.counts, len(records))
		return records, api.OK
	case "Add":
		if m.disk.Down() {
			return nil, api.ErrDown
		}
		err := m.disk.Append(frameOf(v.text))
		if err == api.OK {
			m.counts[v.log%len(m.counts)]++
		}
		return nil, err
	case "Force":
		return nil, m.disk.Sync()
	}
	v.onDisk(m.disk)
	return nil, api.OK
}

func (v move) onLogs(d *disk.Disk, logs *[]*wal.Log) ([]string, api.Errno) {
	switch v.call {
	case "Open":
		l, records, err := wal.Open(d)
		if l != nil {
			*logs = append(*logs, l)
		}
		return records, err
	case "Add":
		return nil, (*logs)[v.log%len(*logs)].Add(v.text)
	case "Force":
		return nil, (*logs)[v.log%len(*logs)].Force()
	}
	v.onDisk(d)
	return nil, api.OK
}

// play makes the moves on a disk with logs and on a model, and compares them after each.
func play(t *testing.T, size int, moves []move) {
	t.Helper()
	d, m := disk.New(size), &model{disk: disk.New(size)}
	var logs []*wal.Log
	moves = append([]move{{call: "Open"}}, moves...)
	for i, v := range moves {
		got, err := v.onLogs(d, &logs)
		want, wanted := v.onModel(m)
		if err != wanted || !slices.Equal(got, want) {
			t.Fatalf("size %d, %v: %q, error %d, want %q, error %d", size, moves[:i+1], got, err, want, wanted)
		}
		if d.Read() != m.disk.Read() || d.Safe() != m.disk.Safe() || d.Left() != m.disk.Left() {
			t.Fatalf("size %d, %v: the disk has %q, %d safe, want %q, %d safe", size, moves[:i+1], d.Read(), d.Safe(), m.disk.Read(), m.disk.Safe())
		}
		if len(logs) != len(m.counts) {
			t.Fatalf("size %d, %v: %d logs, want %d", size, moves[:i+1], len(logs), len(m.counts))
		}
		for k, l := range logs {
			if l.Len() != m.counts[k] || l.Room() != m.disk.Left() {
				t.Fatalf("size %d, %v: log %d: Len %d, Room %d, want %d, %d", size, moves[:i+1], k, l.Len(), l.Room(), m.counts[k], m.disk.Left())
			}
		}
	}
}

func TestAllShortSequences(t *testing.T) {
	moves := []move{
		{call: "Open"},
		{call: "Add", text: ""},
		{call: "Add", log: 1, text: "ab"},
		{call: "Force"},
		{call: "Off", n: 3, turn: 0},
		{call: "Off", n: 14, turn: 0},
		{call: "Off", n: 6, turn: 1},
		{call: "On"},
	}
	const length = 5
	list := make([]move, length)
	total := 1
	for range length {
		total *= len(moves)
	}
	for n := range total {
		for i := range list {
			list[i] = moves[n%len(moves)]
			n /= len(moves)
		}
		play(t, 20, list)
	}
}

// randomMove may also change the disk behind the back of the logs.
func randomMove(random *rand.Rand, size int) move {
	n := random.Intn(size+5) - 2
	v := move{log: random.Intn(3), n: n}
	switch random.Intn(16) {
	case 0, 1:
		v.call = "Open"
	case 2, 3:
		v.call = "Force"
	case 4:
		v.call, v.turn = "Off", byte(random.Intn(4))
	case 5, 6:
		v.call = "On"
	case 7:
		v.call, v.text = "Append", randomBytes(random, random.Intn(9))
	case 8:
		v.call = "Sync"
	case 9:
		v.call = "Trim"
	default:
		v.call, v.text = "Add", randomBytes(random, random.Intn(size/4+1))
	}
	return v
}

func TestRandomSequences(t *testing.T) {
	random := rand.New(rand.NewSource(4))
	for range 1000 {
		size := random.Intn(120)
		list := make([]move, 50)
		for i := range list {
			list[i] = randomMove(random, size)
		}
		play(t, size, list)
	}
}

// P6.2: what power failures leave.

// failures are lists of records; those with frames within them must not be taken for others when their ends are torn.
func failures() [][]string {
	nested := framesOf("inner", "")
	return [][]string{
		{""},
		{"a"},
		{"", "", ""},
		{"one", "", "three"},
		{nested, nested},
		{frameOf(nested), "x", framesOf("x", "x")},
		{strings.Repeat("\x00", 20), strings.Repeat("\xff", 20)},
		{strings.Repeat("long", 80), "short"},
	}
}

// survivors returns how many of the records are whole, if so many bytes remain and the last one that isn't safe is changed.
func survivors(records []string, forced, remain int, changed bool) int {
	whole, taken := 0, 0
	for whole < len(records) {
		taken += len(frameOf(records[whole]))
		torn := taken > remain || taken == remain && changed && whole >= forced
		if torn {
			break
		}
		whole++
	}
	return whole
}

func checkFailure(t *testing.T, records []string, forced, keep int, turn byte) {
	t.Helper()
	d := disk.New(api.MaxLog)
	l := mustOpen(t, "empty disk", d)
	mustAdd(t, l, records[:forced]...)
	wantErr(t, "Force", l.Force(), api.OK)
	mustAdd(t, l, records[forced:]...)
	remain := min(d.Safe()+keep, len(d.Read()))
	fail(d, keep, turn)
	_, got, err := wal.Open(d)
	name := fmt.Sprintf("%.20q, %d forced, keep %d, turn %d", records, forced, keep, turn)
	wantErr(t, name, err, api.OK)
	if len(got) < forced || len(got) > len(records) || !slices.Equal(got, records[:len(got)]) {
		t.Fatalf("%s: found %.60q", name, got)
	}
	if want := survivors(records, forced, remain, turn != 0); len(got) != want {
		t.Fatalf("%s: found %d records, want %d", name, len(got), want)
	}
}

func TestEveryPlaceOfAFailure(t *testing.T) {
	for _, records := range failures() {
		for forced := range len(records) + 1 {
			loose := len(framesOf(records[forced:]...))
			for keep := range loose + 2 {
				for _, turn := range []byte{0, 1, 2, 0x80, 0xff} {
					checkFailure(t, records, forced, keep, turn)
				}
			}
		}
	}
}

func TestEveryTurnOfAFailure(t *testing.T) {
	records := []string{"one", "", "three"}
	for keep := range len(framesOf(records...)) + 1 {
		for turn := range 256 {
			checkFailure(t, records, 0, keep, byte(turn))
			checkFailure(t, records, 1, keep, byte(turn))
		}
	}
}

func TestTheLongestRecordTorn(t *testing.T) {
	s := strings.Repeat("z", api.MaxRecord)
	records := []string{"one", s, "two"}
	for _, keep := range []int{0, 1, 2, 3, 6, 65535, 65536, 65540, 65541, 65542, 65549, 65550, 99999} {
		checkFailure(t, records, 1, keep, 0)
		checkFailure(t, records, 1, keep, 1)
	}
}

func TestExampleOfTheChapter(t *testing.T) {
	d := disk.New(100)
	l := mustOpen(t, "empty disk", d)
	mustAdd(t, l, "a")
	wantErr(t, "Force", l.Force(), api.OK)
	mustAdd(t, l, "b")
	fail(d, 1, 0)
	mustOpen(t, "one byte remains", d, "a")
	wantDisk(t, "one byte remains", d, frameOf("a"), 7)
}

// Over many failures, with the log opened after each, a found record is never lost again, and nothing else comes up.
func TestManyFailures(t *testing.T) {
	random := rand.New(rand.NewSource(5))
	for range 300 {
		d := disk.New(api.MaxLog)
		var sure []string // were forced or found
		for range 20 {
			l := mustOpen(t, "opened", d, sure...)
			all := slices.Clone(sure)
			for range random.Intn(6) {
				s := randomBytes(random, random.Intn(20))
				mustAdd(t, l, s)
				all = append(all, s)
				if random.Intn(3) == 0 {
					wantErr(t, "Force", l.Force(), api.OK)
					sure = slices.Clone(all)
				}
			}
			for range 1 + random.Intn(3) {
				fail(d, random.Intn(60)-2, byte(random.Intn(3)))
			}
			found, _ := wal.Scan(d.Read())
			if len(found) < len(sure) || len(found) > len(all) || !slices.Equal(found, all[:len(found)]) {
				t.Fatalf("found %q of %q, forced %d", found, all, len(sure))
			}
			sure = found
		}
	}
}

// New records come right after those that were found, not after torn bytes.
func TestRecordsAfterATornOne(t *testing.T) {
	torn := len(frameOf("torn"))
	for keep := range torn {
		d := disk.New(100)
		l := mustOpen(t, "empty disk", d)
		mustAdd(t, l, "one")
		wantErr(t, "Force", l.Force(), api.OK)
		mustAdd(t, l, "torn")
		fail(d, keep, 0)
		l = mustOpen(t, "after the failure", d, "one")
		mustAdd(t, l, "two")
		wantErr(t, "Force", l.Force(), api.OK)
		fail(d, 0, 0xff)
		mustOpen(t, "after the second failure", d, "one", "two")
	}
}

// P6.3: opening again.

func checkAgain(t *testing.T, d *disk.Disk) {
	t.Helper()
	_, records, err := wal.Open(d)
	wantErr(t, "first", err, api.OK)
	all := framesOf(records...)
	for range 3 {
		mustOpen(t, "again", d, records...)
		wantDisk(t, "again", d, all, len(all))
	}
	fail(d, 0, 0xff) // nothing is left that a failure could take
	mustOpen(t, "after a failure", d, records...)
	fail(d, 99, 0xff)
	mustOpen(t, "after another one", d, records...)
}

func TestOpenAgain(t *testing.T) {
	for _, records := range failures() {
		for keep := range len(framesOf(records...)) + 1 {
			for _, turn := range []byte{0, 1} {
				d := disk.New(1000)
				mustAdd(t, mustOpen(t, "empty disk", d), records...)
				fail(d, keep, turn)
				checkAgain(t, d)
			}
		}
	}
}

func TestOpenAgainWithoutAFailure(t *testing.T) {
	for _, records := range append(failures(), nil) {
		d := disk.New(1000)
		mustAdd(t, mustOpen(t, "empty disk", d), records...)
		mustOpen(t, "opened", d, records...)
		checkAgain(t, d)
	}
}

// Bytes behind the records, even if they hold a record at another place, are gone after the first time.
func TestOpenAgainAfterJunk(t *testing.T) {
	for _, junk := range []string{"", "j", "\x00", "\x00\x00", frameOf("x")[1:], "?" + frameOf("x"), strings.Repeat("\xff", 50)} {
		d := disk.New(1000)
		d.Append(framesOf("one", "two") + junk)
		mustOpen(t, brief(junk), d, "one", "two")
		checkAgain(t, d)
	}
}

func ExampleOpen() {
	d := disk.New(api.MaxLog)
	l, _, _ := wal.Open(d)
	l.Add("a")
	l.Force()
	l.Add("b")
	d.Off(1, 0)
	d.On()
	l, records, _ := wal.Open(d)
	fmt.Println(records, l.Len())
	// Output: [a] 1
}
