package crc_test

import (
	"fmt"
	"hash/crc32"
	"math/bits"
	"math/rand"
	"slices"
	"strings"
	"testing"

	"mortmain/crc"
)

// longest is the number of bytes up to which P4.2 promises that changes are found.
const longest = 400

const tailSize = 4

func randomBytes(r *rand.Rand, length int) string {
	s := make([]byte, length)
	r.Read(s)
	return string(s)
}

func withTail(s string) string {
	return s + crc.Tail(crc.Of(s))
}

// samples returns strings of a length: of equal bytes, where a weak sum is blind, and a random one.
func samples(r *rand.Rand, length int) []string {
	return []string{strings.Repeat("\x00", length), strings.Repeat("\xff", length), randomBytes(r, length)}
}

// P4.1: the results of the calls.

func TestOfKnownStrings(t *testing.T) {
	for s, want := range map[string]uint32{
		"":          0,
		"123456789": 0xCBF43926,
		"a":         0xE8B7BE43,
		"abc":       0x352441C2,
		"\x00":      0xD202EF8D,
		"\xff":      0xFF000000,
		"The quick brown fox jumps over the lazy dog": 0x414FA339,
		strings.Repeat("\x00", 4):                     0x2144DF1C,
		strings.Repeat("\xff", 4):                     0xFFFFFFFF,
		strings.Repeat("\x00", 32):                    0x190A55AD,
		strings.Repeat("\xff", 32):                    0xFF6CAB0B,
	} {
		if got := crc.Of(s); got != want {
			t.Errorf("%q: %08X, want %08X", s, got, want)
		}
	}
}

func checkOf(t *testing.T, s string) {
	t.Helper()
	if got, want := crc.Of(s), crc32.ChecksumIEEE([]byte(s)); got != want {
		t.Errorf("%x: %08X, want %08X", s, got, want)
	}
}

func TestOfAllShortStrings(t *testing.T) {
	for a := range 256 {
		checkOf(t, string([]byte{byte(a)}))
		for b := range 256 {
			checkOf(t, string([]byte{byte(a), byte(b)}))
		}
	}
}

func TestOfAllLengths(t *testing.T) {
	random := rand.New(rand.NewSource(1))
	for length := range 1000 {
		for _, s := range samples(random, length) {
			checkOf(t, s)
		}
	}
	checkOf(t, randomBytes(random, 1<<20))
}

func TestOfNoParts(t *testing.T) {
	for _, parts := range [][]string{nil, {}, {""}, {"", "", ""}} {
		if got := crc.Of(parts...); got != 0 {
			t.Errorf("%q: %08X", parts, got)
		}
	}
}

func TestOfPartsIsOfTheirConcatenation(t *testing.T) {
	const s = "123456789"
	const want = 0xCBF43926
	for i := range len(s) + 1 {
		for j := i; j <= len(s); j++ {
			if got := crc.Of(s[:i], s[i:j], s[j:]); got != want {
				t.Errorf("%q, %q, %q: %08X", s[:i], s[i:j], s[j:], got)
			}
		}
	}
	if got := crc.Of(strings.Split(s, "")...); got != want {
		t.Errorf("single bytes: %08X", got)
	}
	if got := crc.Of("", "1", "", "", "23456789", ""); got != want {
		t.Errorf("empty parts between: %08X", got)
	}
	if crc.Of("ab", "c") == crc.Of("c", "ab") {
		t.Error("the order of the parts doesn't count")
	}
}

func TestOfRandomParts(t *testing.T) {
	random := rand.New(rand.NewSource(2))
	for range 2000 {
		parts := make([]string, random.Intn(8))
		for i := range parts {
			parts[i] = randomBytes(random, random.Intn(30))
		}
		joined := strings.Join(parts, "")
		if got, want := crc.Of(parts...), crc32.ChecksumIEEE([]byte(joined)); got != want {
			t.Fatalf("%q: %08X, want %08X", parts, got, want)
		}
	}
}

func TestArgumentsStay(t *testing.T) {
	parts := []string{"a", "b", "c", "d"}
	crc.Of(parts[:2]...)
	if !slices.Equal(parts, []string{"a", "b", "c", "d"}) {
		t.Error(parts)
	}
}

func TestTail(t *testing.T) {
	for c, want := range map[uint32]string{
		0:          "\x00\x00\x00\x00",
		1:          "\x00\x00\x00\x01",
		0x100:      "\x00\x00\x01\x00",
		0x10000:    "\x00\x01\x00\x00",
		0x1000000:  "\x01\x00\x00\x00",
		0x01020304: "\x01\x02\x03\x04",
		0x80FF7F00: "\x80\xff\x7f\x00",
		0xCBF43926: "\xcb\xf4\x39\x26",
		0xFFFFFFFF: "\xff\xff\xff\xff",
	} {
		if got := crc.Tail(c); got != want {
			t.Errorf("%08X: %x, want %x", c, got, want)
		}
	}
}

func wantNoPass(t *testing.T, s string) {
	t.Helper()
	if body, ok := crc.Check(s); body != "" || ok {
		t.Errorf("%x: %q, %t", s, body, ok)
	}
}

func TestCheckTooShort(t *testing.T) {
	wantNoPass(t, "")
	for n := range 1 << 16 {
		wantNoPass(t, string([]byte{byte(n)}))
		wantNoPass(t, string([]byte{byte(n), byte(n >> 8)}))
		wantNoPass(t, string([]byte{byte(n), byte(n >> 8), 0}))
	}
}

func TestCheckOfTheEmptyString(t *testing.T) {
	if body, ok := crc.Check("\x00\x00\x00\x00"); body != "" || !ok {
		t.Errorf("the empty string and its tail: %q, %t", body, ok)
	}
	for i := range 32 {
		wantNoPass(t, crc.Tail(1<<i))
	}
	wantNoPass(t, "\xff\xff\xff\xff")
}

func TestCheckInvalid(t *testing.T) {
	for _, s := range []string{
		"123456789",                        // no tail
		"123456789\xcb\xf4\x39",            // a part of it
		"123456789\x26\x39\xf4\xcb",        // the least significant byte first
		"123456789\x34\x0b\xc6\xd9",        // the bits not inverted at the end
		"123456789\xcb\xf4\x39\x27",        // another tail
		"12345678\xcb\xf4\x39\x26",         // the tail of another string
		"0123456789\xcb\xf4\x39\x26",       // the tail of an end of it
		"123456789\xcb\xf4\x39\x26\x00",    // bytes after the tail
		"123456789 \xcb\xf4\x39\x26",       // bytes before it
		"\xcb\xf4\x39\x26123456789",        // the tail in front
		"123456789" + "\x00\x00\x00\x00",   // the tail of nothing
		"\x00\x00\x00\x00\x00\x00\x00\x00", // zeros
		strings.Repeat("\xff", tailSize) + "a",
	} {
		wantNoPass(t, s)
	}
}

// For all bytes, a string passes exactly if its last four are the tail of the others.
func TestCheckAgreesWithTheSum(t *testing.T) {
	random := rand.New(rand.NewSource(3))
	for range 20000 {
		body := randomBytes(random, random.Intn(40))
		c := crc32.ChecksumIEEE([]byte(body))
		if random.Intn(2) == 0 {
			c ^= random.Uint32() >> random.Intn(32)
		}
		s := body + string([]byte{byte(c >> 24), byte(c >> 16), byte(c >> 8), byte(c)})
		got, ok := crc.Check(s)
		if c != crc32.ChecksumIEEE([]byte(body)) {
			wantNoPass(t, s)
		} else if got != body || !ok {
			t.Fatalf("%x: %x, %t", s, got, ok)
		}
	}
}

// P4.2: a string and its tail pass.

func TestStringAndTailPass(t *testing.T) {
	random := rand.New(rand.NewSource(4))
	for length := range 2 * longest {
		for _, s := range samples(random, length) {
			if body, ok := crc.Check(withTail(s)); body != s || !ok {
				t.Fatalf("%x: %x, %t", s, body, ok)
			}
		}
	}
	for n := range 1 << 16 {
		s := string([]byte{byte(n), byte(n >> 8)})
		if body, ok := crc.Check(withTail(s)); body != s || !ok {
			t.Fatalf("%x: %x, %t", s, body, ok)
		}
	}
}

func TestTailOfTail(t *testing.T) {
	once := withTail("abc")
	body, ok := crc.Check(withTail(once))
	if body != once || !ok {
		t.Errorf("%x, %t", body, ok)
	}
	if body, ok = crc.Check(body); body != "abc" || !ok {
		t.Errorf("%x, %t", body, ok)
	}
}

// P4.2: changed bits are found.

func flip(s string, places ...int) string {
	b := []byte(s)
	for _, place := range places {
		b[place/8] ^= 1 << (place % 8)
	}
	return string(b)
}

func TestOneBitChanged(t *testing.T) {
	random := rand.New(rand.NewSource(5))
	for _, length := range []int{0, 1, 2, 3, 4, 5, 7, 8, 63, 64, 100, 255, 256, longest - 1, longest} {
		for _, s := range samples(random, length) {
			whole := withTail(s)
			for i := range 8 * len(whole) {
				wantNoPass(t, flip(whole, i))
			}
		}
	}
}

func TestAllOneToThreeBitsOfShortStrings(t *testing.T) {
	random := rand.New(rand.NewSource(6))
	for length := range 4 {
		for _, s := range samples(random, length) {
			whole := withTail(s)
			for i := range 8 * len(whole) {
				wantNoPass(t, flip(whole, i))
				for j := range i {
					wantNoPass(t, flip(whole, i, j))
					for k := range j {
						wantNoPass(t, flip(whole, i, j, k))
					}
				}
			}
		}
	}
}

func TestTwoOrThreeBitsChanged(t *testing.T) {
	random := rand.New(rand.NewSource(7))
	for range 20000 {
		whole := withTail(randomBytes(random, random.Intn(longest+1)))
		places := random.Perm(8 * len(whole))
		wantNoPass(t, flip(whole, places[:2]...))
		wantNoPass(t, flip(whole, places[:3]...))
	}
}

// syndromes returns, for each bit of a string of zeros and its tail, by how
// much it moves the sum away from the tail. The sum is a linear map of the
// changed bits (TestChangesAddUp), so changes are overlooked exactly if the
// syndromes of their bits cancel out.
func syndromes(length int) []uint32 {
	zeros := strings.Repeat("\x00", length)
	sum := crc.Of(zeros)
	var list []uint32
	for i := range 8 * length {
		list = append(list, sum^crc.Of(flip(zeros, i)))
	}
	for i := range 8 * tailSize {
		tail := flip(crc.Tail(0), i)
		list = append(list, uint32(tail[0])<<24|uint32(tail[1])<<16|uint32(tail[2])<<8|uint32(tail[3]))
	}
	return list
}

func TestChangesAddUp(t *testing.T) {
	random := rand.New(rand.NewSource(8))
	moves := syndromes(longest)
	for range 3000 {
		s := randomBytes(random, longest)
		places := random.Perm(8 * longest)[:random.Intn(40)]
		want := crc.Of(s)
		for _, place := range places {
			want ^= moves[place]
		}
		if got := crc.Of(flip(s, places...)); got != want {
			t.Fatalf("%v: %08X, want %08X", places, got, want)
		}
	}
}

// The syndromes of a shorter string are among those of the longest one, so
// this covers all strings of up to 400 bytes.
func TestNoOneToThreeBitsCancelOut(t *testing.T) {
	moves := syndromes(longest)
	places := make(map[uint32]int, len(moves))
	for i, move := range moves {
		if move == 0 {
			t.Fatalf("bit %d has no effect", i)
		}
		if other, ok := places[move]; ok {
			t.Fatalf("bits %d and %d cancel out", other, i)
		}
		places[move] = i
	}
	for i, a := range moves {
		for j, b := range moves[:i] {
			if k, ok := places[a^b]; ok {
				t.Fatalf("bits %d, %d and %d cancel out", i, j, k)
			}
		}
	}
}

func TestShorterStringsHaveTheSameSyndromes(t *testing.T) {
	all := syndromes(longest)
	for _, length := range []int{0, 1, 2, 3, 4, 5, 50, 200, longest - 1} {
		moves := syndromes(length)
		if !slices.Equal(moves, all[len(all)-len(moves):]) {
			t.Errorf("length %d", length)
		}
	}
}

// P4.2: changes within four consecutive bytes are found.

// independent tells whether no combination of the moves cancels out.
func independent(moves []uint32) bool {
	var byTop [32]uint32
	for _, move := range moves {
		for move != 0 {
			top := bits.Len32(move) - 1
			if byTop[top] == 0 {
				byTop[top] = move
				break
			}
			move ^= byTop[top]
		}
		if move == 0 {
			return false
		}
	}
	return true
}

func TestNoChangesInFourBytesCancelOut(t *testing.T) {
	moves := syndromes(longest)
	for first := range longest - 3 {
		if !independent(moves[8*first : 8*(first+4)]) {
			t.Errorf("bytes %d to %d of the string", first, first+3)
		}
	}
	if !independent(moves[8*longest:]) {
		t.Error("the tail")
	}
}

// overwrite changes at most four bytes from the first one, at least one of them.
func overwrite(random *rand.Rand, s string, first, limit int) string {
	b := []byte(s)
	for string(b) == s {
		random.Read(b[first:min(first+4, limit)])
	}
	return string(b)
}

func TestFourBytesChanged(t *testing.T) {
	random := rand.New(rand.NewSource(9))
	for _, length := range []int{1, 2, 3, 4, 5, 8, 9, 64, 255, longest - 1, longest} {
		for _, s := range samples(random, length) {
			whole := withTail(s)
			for first := range length {
				wantNoPass(t, overwrite(random, whole, first, length))
			}
		}
	}
}

func TestTailChanged(t *testing.T) {
	random := rand.New(rand.NewSource(10))
	for _, length := range []int{0, 1, 4, 9, longest} {
		whole := withTail(randomBytes(random, length))
		for range 2000 {
			wantNoPass(t, overwrite(random, whole, length, len(whole)))
		}
		for at := length; at < len(whole); at++ {
			for mask := 1; mask < 256; mask++ {
				b := []byte(whole)
				b[at] ^= byte(mask)
				wantNoPass(t, string(b))
			}
		}
	}
}

func ExampleOf() {
	fmt.Printf("%08X\n", crc.Of("1234", "56789"))
	// Output: CBF43926
}
