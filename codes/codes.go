// Package codes is layer 1: numbers, and lists of them, as words, and read again. See shared/doc/01-codes.md.
package codes

import "slices"

// maxText is how many bytes a text has, at most.
const maxText = 64

// wordBytes is how many bytes of a text stand in a word.
const wordBytes = 8

// Writer writes a record. Its zero value has nothing.
type Writer struct{ words []uint64 }

// Count writes a count: n, or 0 of n below 0.
func (w *Writer) Count(n int) { w.add(uint64(max(n, 0))) }

// Signed writes a number with a sign.
func (w *Writer) Signed(x int64) {
	// The shift spreads the sign over all bits: below 0, what x is below -1 is x with each bit turned.
	w.add(uint64(x)<<1 ^ uint64(x>>63))
}

// Flag writes a flag.
func (w *Writer) Flag(b bool) {
	if b {
		w.add(1)
	} else {
		w.add(0)
	}
}

// Text writes a text: the first 64 bytes of s.
func (w *Writer) Text(s string) {
	s = s[:min(len(s), maxText)]
	w.Count(len(s))
	w.add(pack(s)...)
}

// Words writes a count of words, and these.
func (w *Writer) Words(l []uint64) {
	w.Count(len(l))
	w.add(l...)
}

// Done tells a copy of all that was written.
func (w *Writer) Done() []uint64 { return slices.Clone(w.words) }

// add writes words as they are.
func (w *Writer) add(words ...uint64) { w.words = append(w.words, words...) }

// pack tells the words of a text's bytes.
func pack(s string) []uint64 {
	l := make([]uint64, textWords(len(s)))
	for i := range len(s) {
		l[i/wordBytes] |= uint64(s[i]) << shift(i)
	}
	return l
}

// unpack tells the text of n bytes that words have, and whether it is one: whether nothing but zeros stands behind it.
func unpack(l []uint64, n int) (string, bool) {
	b := make([]byte, 0, n)
	for i := range len(l) * wordBytes {
		c := byte(l[i/wordBytes] >> shift(i))
		if i < n {
			b = append(b, c)
		} else if c != 0 {
			return "", false
		}
	}
	return string(b), true
}

// textWords tells how many words n bytes of a text take.
func textWords(n int) int { return (n + wordBytes - 1) / wordBytes }

// shift tells how far up in its word a text's byte i stands.
func shift(i int) int { return i % wordBytes * 8 }

// Reader goes along a record.
type Reader struct {
	rest  []uint64 // what is left to read
	wrong bool     // whether something wasn't right
}

// NewReader tells a Reader of a record, which it copies: the caller may change its list behind this.
func NewReader(l []uint64) *Reader { return &Reader{rest: slices.Clone(l)} }

// Count reads a count from 0 to most.
func (r *Reader) Count(most int) int {
	return next(r, 1, func(l []uint64) (int, bool) {
		return int(l[0]), most >= 0 && l[0] <= uint64(most)
	})
}

// Signed reads a number with a sign.
func (r *Reader) Signed() int64 {
	return next(r, 1, func(l []uint64) (int64, bool) {
		return int64(l[0]>>1) ^ -int64(l[0]&1), true
	})
}

// Flag reads a flag.
func (r *Reader) Flag() bool {
	return next(r, 1, func(l []uint64) (bool, bool) {
		return l[0] == 1, l[0] <= 1
	})
}

// Text reads a text.
func (r *Reader) Text() string {
	n := r.Count(maxText)
	return next(r, textWords(n), func(l []uint64) (string, bool) { return unpack(l, n) })
}

// Words reads a count of words, at most most, and these.
func (r *Reader) Words(most int) []uint64 {
	n := r.Count(most)
	return next(r, n, func(l []uint64) ([]uint64, bool) { return slices.Clone(l), true })
}

// Ok tells whether all was right so far.
func (r *Reader) Ok() bool { return !r.wrong }

// End tells whether all was right so far, and nothing is left.
func (r *Reader) End() bool { return r.Ok() && len(r.rest) == 0 }

// next reads n words and tells what tell makes of them, and moves on behind them. The reader isn't right from then on, if there aren't as many words, or tell says that they aren't right.
func next[T any](r *Reader, n int, tell func(l []uint64) (T, bool)) T {
	wrong := func() (zero T) {
		r.rest, r.wrong = nil, true
		return zero
	}
	if r.wrong || n > len(r.rest) {
		return wrong()
	}
	x, right := tell(r.rest[:n])
	if !right {
		return wrong()
	}
	r.rest = r.rest[n:]
	return x
}
