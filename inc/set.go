package inc

// set is a big bit set of numbers below the one that it was made for: in a list of words, so many numbers a word.
type set []uint64

const wordBits = 64

// newSet tells a set with room for the numbers below n; it has none yet.
func newSet(n int) set { return make(set, (n+wordBits-1)/wordBits) }

// has tells whether a set has a number.
func (s set) has(i int) bool { return s[i/wordBits]>>(i%wordBits)&1 == 1 }

// add puts a number into a set.
func (s set) add(i int) { s[i/wordBits] |= 1 << (i % wordBits) }

// join puts all numbers of another set, which has no more room, into a set.
func (s set) join(t set) {
	for w, bits := range t {
		s[w] |= bits
	}
}
