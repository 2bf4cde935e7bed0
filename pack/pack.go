// Package pack is layer 1: numbers, strings and booleans as bytes, and back. See shared/doc/01-pack.md.
package pack

import "mortmain/api"

const (
	groupBits = 7
	groupMask = 1<<groupBits - 1
	moreFlag  = 1 << groupBits

	// Nine groups hold 63 bits, so the tenth has room for one bit only.
	maxGroups    = 10
	maxLastGroup = 1
)

// Writer appends encoded values one after the other; the zero Writer is empty.
type Writer struct {
	buf []byte
}

// Int appends numbers.
func (w *Writer) Int(list ...int) {
	if w == nil {
		return
	}
	for _, n := range list {
		w.buf = appendNumber(w.buf, n)
	}
}

// Str appends strings, each after its length.
func (w *Writer) Str(list ...string) {
	if w == nil {
		return
	}
	for _, s := range list {
		w.buf = appendNumber(w.buf, len(s))
		w.buf = append(w.buf, s...)
	}
}

// Bool appends booleans, as the numbers 1 and 0.
func (w *Writer) Bool(list ...bool) {
	for _, b := range list {
		if b {
			w.Int(1)
		} else {
			w.Int(0)
		}
	}
}

// Bytes returns everything appended so far.
func (w *Writer) Bytes() string {
	if w == nil {
		return ""
	}
	return string(w.buf)
}

// Reader decodes values from the beginning of its bytes to their end.
type Reader struct {
	rest   string
	failed bool
}

// Open returns a reader of the bytes of s.
func Open(s string) *Reader {
	return &Reader{rest: s}
}

// Int decodes a number; it returns 0 after a failure.
func (r *Reader) Int() int {
	n, _ := r.number()
	return n
}

// Str decodes a string; it returns the empty one after a failure.
func (r *Reader) Str() string {
	n, ok := r.number()
	if !ok {
		return ""
	}
	if n < 0 || n > len(r.rest) {
		r.fail()
		return ""
	}
	s := r.rest[:n]
	r.rest = r.rest[n:]
	return s
}

// Bool decodes a boolean; it returns false after a failure.
func (r *Reader) Bool() bool {
	n, ok := r.number()
	if !ok {
		return false
	}
	if n != 0 && n != 1 {
		r.fail()
		return false
	}
	return n == 1
}

// Many decodes a count that is at most bound; it returns 0 after a failure.
// Every counted item takes at least one byte, so a count above the number of
// remaining bytes can't be right: callers may allocate for it unchecked.
func (r *Reader) Many(bound int) int {
	n, ok := r.number()
	if !ok {
		return 0
	}
	if n < 0 || n > bound || n > len(r.rest) {
		r.fail()
		return 0
	}
	return n
}

// End tells whether everything was decoded without a failure.
// It only looks: decoding may go on after bytes were found to be left.
func (r *Reader) End() api.Errno {
	if r == nil {
		return api.ErrNil
	}
	if r.failed || r.rest != "" {
		return api.ErrForm
	}
	return api.OK
}

func (r *Reader) number() (int, bool) {
	if r == nil {
		return 0, false
	}
	u, size := takeGroups(r.rest)
	if size == 0 {
		r.fail()
		return 0, false
	}
	r.rest = r.rest[size:]
	return fromZigzag(u), true
}

// fail drops the remaining bytes, so that every later call lacks bytes and fails too.
func (r *Reader) fail() {
	r.failed = true
	r.rest = ""
}

func appendNumber(buf []byte, n int) []byte {
	u := toZigzag(n)
	for u > groupMask {
		buf = append(buf, byte(u&groupMask)|moreFlag)
		u >>= groupBits
	}
	return append(buf, byte(u))
}

// takeGroups returns the unsigned number at the beginning of s and how many
// bytes it takes; it takes none if s doesn't begin with a valid number.
func takeGroups(s string) (uint64, int) {
	var u uint64
	for i := range min(len(s), maxGroups) {
		b := s[i]
		if i == maxGroups-1 && b > maxLastGroup {
			return 0, 0
		}
		u |= uint64(b&groupMask) << (groupBits * i)
		if b < moreFlag {
			// A zero at the end adds nothing, so a shorter encoding exists.
			if b == 0 && i > 0 {
				return 0, 0
			}
			return u, i + 1
		}
	}
	return 0, 0
}

// toZigzag flips all bits of a negative number's double: -2n - 1 is ^2n.
func toZigzag(n int) uint64 {
	u := uint64(n) << 1
	if n < 0 {
		return ^u
	}
	return u
}

func fromZigzag(u uint64) int {
	n := int(u >> 1)
	if u&1 == 1 {
		return ^n
	}
	return n
}
