package sums

import (
	"hash/crc32"
	"math"
	"math/rand"
	"slices"
	"strings"
	"sync"
	"testing"
)

// bitwise tells a sum as the document's words do: without a table, a bit at a time.
func bitwise(b []byte) uint32 {
	x := uint32(math.MaxUint32)
	for _, c := range b {
		x ^= uint32(c)
		for range 8 {
			lowest := x % 2
			x /= 2
			if lowest == 1 {
				x ^= 0x82f63b78
			}
		}
	}
	return ^x
}

// bytesOf tells words' bytes, one word behind the other, of each the lowest one first.
func bytesOf(l []uint64) []byte {
	var b []byte
	for _, w := range l {
		for range 8 {
			b = append(b, byte(w%256))
			w /= 256
		}
	}
	return b
}

// markOf tells a mark as the document's words do.
func markOf(kind, n int, l []uint64) uint64 {
	words := append([]uint64{uint64(kind), uint64(n)}, l...)
	return uint64(kind)*(1<<56) + uint64(n)*(1<<32) + uint64(bitwise(bytesOf(words)))
}

func randomWords(rnd *rand.Rand, n int) []uint64 {
	l := make([]uint64, n)
	for i := range l {
		l[i] = rnd.Uint64() >> rnd.Intn(64)
	}
	return l
}

// marked tells the mark that there must be.
func marked(t *testing.T, kind, n int, l []uint64) uint64 {
	t.Helper()
	w, ok := Mark(kind, n, l)
	if !ok {
		t.Fatalf("no mark of kind %d, number %d", kind, n)
	}
	return w
}

// wordLists has lists of words: none, few, many; with no bit and with all.
func wordLists() [][]uint64 {
	return [][]uint64{
		nil, {}, {0}, {0, 0}, {1}, {1, 2}, {2, 1}, {math.MaxUint64}, {1 << 63}, {0x0102030405060708},
		{math.MaxUint64, 0, 1}, make([]uint64, 100), slices.Repeat([]uint64{math.MaxUint64}, 2000),
	}
}

// marks has edges of the kinds and of the numbers.
func marks() [][2]int {
	return [][2]int{
		{0, 0}, {0, 1}, {1, 0}, {1, 1}, {7, 300}, {127, 1<<23 - 1}, {128, 1 << 23}, {254, 1<<24 - 2},
		{255, 0}, {0, 1<<24 - 1}, {255, 1<<24 - 1},
	}
}

// P2.1: the sum of words, and of bytes.

func TestBytes(t *testing.T) {
	rising := make([]byte, 32)
	for i := range rising {
		rising[i] = byte(i)
	}
	falling := slices.Clone(rising)
	slices.Reverse(falling)
	for _, c := range []struct {
		b    []byte
		want uint32
	}{
		{nil, 0}, {[]byte{}, 0}, {[]byte{0}, 0x527d5351}, {[]byte{0xff}, 0xff000000}, {[]byte("a"), 0xc1d04330},
		{[]byte("123456789"), 0xe3069283},
		{make([]byte, 32), 0x8a9136aa}, {slices.Repeat([]byte{0xff}, 32), 0x62a8ab43},
		{rising, 0x46dd794e}, {falling, 0x113fdb5c},
	} {
		if x := Bytes(c.b); x != c.want {
			t.Errorf("Bytes(%x): %08x, not %08x", c.b, x, c.want)
		}
	}
}

func TestBytesOfEachByte(t *testing.T) {
	for c := range 256 {
		for _, b := range [][]byte{{byte(c)}, {0, byte(c)}, {byte(c), 0}, {byte(c), byte(c), byte(c)}} {
			if x := Bytes(b); x != bitwise(b) {
				t.Errorf("Bytes(%x): %08x, not %08x", b, x, bitwise(b))
			}
		}
	}
}

func TestBytesOfAnyLength(t *testing.T) {
	rnd := rand.New(rand.NewSource(1))
	castagnoli := crc32.MakeTable(crc32.Castagnoli)
	for n := range 300 {
		b := make([]byte, n)
		rnd.Read(b)
		if x := Bytes(b); x != bitwise(b) || x != crc32.Checksum(b, castagnoli) {
			t.Errorf("Bytes(%x): %08x, not %08x", b, x, bitwise(b))
		}
	}
	long := []byte(strings.Repeat("gimmal", 100000))
	if x := Bytes(long); x != crc32.Checksum(long, castagnoli) {
		t.Errorf("Bytes of a long text: %08x", x)
	}
}

func TestOf(t *testing.T) {
	for _, c := range []struct {
		l    []uint64
		want uint32
	}{
		{nil, 0}, {[]uint64{}, 0},
		{make([]uint64, 4), 0x8a9136aa}, {slices.Repeat([]uint64{math.MaxUint64}, 4), 0x62a8ab43},
		{[]uint64{0x0706050403020100, 0x0f0e0d0c0b0a0908, 0x1716151413121110, 0x1f1e1d1c1b1a1918}, 0x46dd794e},
		{[]uint64{0x18191a1b1c1d1e1f, 0x1011121314151617, 0x08090a0b0c0d0e0f, 0x0001020304050607}, 0x113fdb5c},
	} {
		if x := Of(c.l); x != c.want {
			t.Errorf("Of(%x): %08x, not %08x", c.l, x, c.want)
		}
	}
	for _, l := range wordLists() {
		if x := Of(l); x != bitwise(bytesOf(l)) {
			t.Errorf("Of(%x): %08x, not %08x", l, x, bitwise(bytesOf(l)))
		}
	}
}

func TestOfIsThatOfTheBytes(t *testing.T) {
	if x := Of([]uint64{0x3837363534333231}); x != Bytes([]byte("12345678")) {
		t.Errorf("%08x", x)
	}
	for i := range 64 {
		l := []uint64{1 << i}
		if x := Of(l); x != Bytes(bytesOf(l)) {
			t.Errorf("the bit %d: %08x", i, x)
		}
	}
	rnd := rand.New(rand.NewSource(2))
	for n := range 100 {
		l := randomWords(rnd, n)
		if x := Of(l); x != Bytes(bytesOf(l)) || x != bitwise(bytesOf(l)) {
			t.Errorf("Of(%x): %08x", l, x)
		}
	}
}

func TestOfTellsTheOrder(t *testing.T) {
	for _, l := range [][2][]uint64{
		{{1, 2}, {2, 1}}, {{0}, nil}, {{0}, {0, 0}}, {{5}, {5, 0}}, {{5}, {0, 5}}, {{1}, {1 << 56}},
	} {
		if Of(l[0]) == Of(l[1]) {
			t.Errorf("%x and %x have one sum", l[0], l[1])
		}
	}
}

// P2.2: Mark, when there is none, and Open.

func TestMark(t *testing.T) {
	for _, l := range wordLists() {
		for _, c := range marks() {
			if w := marked(t, c[0], c[1], l); w != markOf(c[0], c[1], l) {
				t.Errorf("Mark(%d, %d, %x): %x, not %x", c[0], c[1], l, w, markOf(c[0], c[1], l))
			}
		}
	}
}

func TestMarkOfEachKind(t *testing.T) {
	for kind := range 256 {
		n := kind * 65793 // 255 of these are 2^24 - 1
		if w := marked(t, kind, n, []uint64{9}); w != markOf(kind, n, []uint64{9}) {
			t.Errorf("Mark(%d, %d): %x", kind, n, w)
		}
	}
}

func TestMarkOfEachBitOfANumber(t *testing.T) {
	for i := range 24 {
		if w := marked(t, 3, 1<<i, nil); w != markOf(3, 1<<i, nil) {
			t.Errorf("Mark(3, 1<<%d): %x", i, w)
		}
	}
}

func TestMarkParts(t *testing.T) {
	for _, l := range wordLists() {
		w := marked(t, 7, 300, l)
		if sum := Of(append([]uint64{7, 300}, l...)); w != 7<<56|300<<32|uint64(sum) {
			t.Errorf("Mark(7, 300, %x): %x, of the sum %x", l, w, sum)
		}
	}
}

// wrongMarks has kinds and numbers that there aren't; some would be right if higher bits were cut off.
func wrongMarks() [][2]int {
	return [][2]int{
		{-1, 0}, {256, 0}, {0, -1}, {0, 1 << 24}, {-1, -1}, {256, 1 << 24}, {-1, 1 << 24}, {256, -1},
		{-1, 1<<24 - 1}, {256, 1<<24 - 1}, {255, -1}, {255, 1 << 24},
		{257, 0}, {-256, 0}, {512, 0}, {1 << 32, 0}, {1<<32 + 7, 300}, {0, 1<<24 + 1}, {0, -1 << 24}, {0, 1 << 32}, {7, 1<<32 + 300},
		{math.MinInt, 0}, {math.MaxInt, 0}, {0, math.MinInt}, {0, math.MaxInt}, {math.MinInt, math.MinInt}, {math.MaxInt, math.MaxInt},
	}
}

func TestNoMark(t *testing.T) {
	for _, c := range wrongMarks() {
		for _, l := range [][]uint64{nil, {0}, {1, 2}} {
			if w, ok := Mark(c[0], c[1], l); w != 0 || ok {
				t.Errorf("Mark(%d, %d, %d): %x, %t", c[0], c[1], l, w, ok)
			}
		}
	}
}

func TestOpen(t *testing.T) {
	for _, c := range []struct {
		w       uint64
		kind, n int
		sum     uint32
	}{
		{0, 0, 0, 0},
		{math.MaxUint64, 255, 1<<24 - 1, math.MaxUint32},
		{0xff << 56, 255, 0, 0}, {0xffffff << 32, 0, 1<<24 - 1, 0}, {0xffffffff, 0, 0, math.MaxUint32},
		{1 << 56, 1, 0, 0}, {1 << 63, 128, 0, 0}, {1 << 32, 0, 1, 0}, {1 << 55, 0, 1 << 23, 0}, {1, 0, 0, 1}, {1 << 31, 0, 0, 1 << 31},
		{0x123456789abcdef0, 0x12, 0x345678, 0x9abcdef0},
	} {
		if kind, n, sum := Open(c.w); kind != c.kind || n != c.n || sum != c.sum {
			t.Errorf("Open(%x): %d, %d, %x", c.w, kind, n, sum)
		}
	}
}

func TestOpenOfMarks(t *testing.T) {
	rnd := rand.New(rand.NewSource(3))
	for _, c := range marks() {
		l := randomWords(rnd, rnd.Intn(6))
		want := bitwise(bytesOf(append([]uint64{uint64(c[0]), uint64(c[1])}, l...)))
		if kind, n, sum := Open(marked(t, c[0], c[1], l)); kind != c[0] || n != c[1] || sum != want {
			t.Errorf("Open of the mark of %d, %d, %x: %d, %d, %x", c[0], c[1], l, kind, n, sum)
		}
	}
}

// P2.3: Fits.

func TestFits(t *testing.T) {
	for _, l := range wordLists() {
		for _, c := range marks() {
			if !Fits(marked(t, c[0], c[1], l), l) {
				t.Errorf("the mark of %d, %d doesn't fit %x", c[0], c[1], l)
			}
		}
	}
	if !Fits(marked(t, 7, 300, nil), []uint64{}) || !Fits(marked(t, 7, 300, []uint64{}), nil) {
		t.Error("nil and empty are one")
	}
}

func TestFitsNotOtherWords(t *testing.T) {
	for _, c := range marks() {
		w := marked(t, c[0], c[1], []uint64{1, 2})
		for _, l := range [][]uint64{
			nil, {}, {1}, {2}, {2, 1}, {1, 3}, {0, 1, 2}, {1, 2, 0}, {1, 2, 3}, {1, 2, 1, 2}, {1 << 32, 2 << 32},
			{uint64(c[0]), uint64(c[1]), 1, 2},
		} {
			if Fits(w, l) {
				t.Errorf("the mark of %d, %d and 1, 2 fits %x", c[0], c[1], l)
			}
		}
	}
}

func TestFitsNotWithAnothersPart(t *testing.T) {
	const sum, number, kind = 1<<32 - 1, (1<<24 - 1) << 32, 255 << 56
	for _, l := range [][]uint64{nil, {0}, {1, 2}} {
		for _, a := range marks() {
			for _, b := range marks() {
				w, other := marked(t, a[0], a[1], l), marked(t, b[0], b[1], l)
				for _, part := range []uint64{sum, number, kind} {
					mixed := w&^part | other&part
					if Fits(mixed, l) != (mixed == w || mixed == other) {
						t.Errorf("%x of %x and %x, of %x", mixed, w, other, l)
					}
				}
			}
		}
	}
}

func TestFitsNotASumAlone(t *testing.T) {
	for _, l := range [][]uint64{nil, {0}, {1, 2}} {
		for _, c := range marks() {
			header := uint64(c[0])<<56 | uint64(c[1])<<32
			if Fits(header|uint64(Of(l)), l) || Fits(header, l) {
				t.Errorf("%x with the sum of the words alone, or none, fits %x", header, l)
			}
		}
	}
	if Fits(0, nil) || Fits(math.MaxUint64, nil) || Fits(0, make([]uint64, 5)) {
		t.Error("words that are no marks fit")
	}
}

func TestFitsNotABitTurnedInTheMark(t *testing.T) {
	for _, l := range [][]uint64{nil, {0}, {1, 2}, {math.MaxUint64, 5, 6, 7}} {
		for _, c := range marks() {
			w := marked(t, c[0], c[1], l)
			for i := range 64 {
				if Fits(w^1<<i, l) {
					t.Errorf("the mark of %d, %d with the bit %d turned fits %x", c[0], c[1], i, l)
				}
			}
		}
	}
}

func TestFitsAnyWord(t *testing.T) {
	rnd := rand.New(rand.NewSource(4))
	for range 2000 {
		w, l := rnd.Uint64(), randomWords(rnd, rnd.Intn(5))
		if Fits(w, l) != (w == markOf(int(w>>56), int(w>>32%(1<<24)), l)) {
			t.Errorf("Fits(%x, %x)", w, l)
		}
		fitting := w>>32<<32 | markOf(int(w>>56), int(w>>32%(1<<24)), l)%(1<<32)
		if !Fits(fitting, l) {
			t.Errorf("not Fits(%x, %x)", fitting, l)
		}
	}
}

// P2.4: words with one bit turned don't fit.

func TestABitTurnedDoesNotFit(t *testing.T) {
	rnd := rand.New(rand.NewSource(5))
	for n := range 20 {
		for _, c := range marks() {
			l := randomWords(rnd, n)
			w := marked(t, c[0], c[1], l)
			for i := range 64 * n {
				l[i/64] ^= 1 << (i % 64)
				if Fits(w, l) {
					t.Errorf("%d words of the mark of %d, %d with the bit %d turned", n, c[0], c[1], i)
				}
				l[i/64] ^= 1 << (i % 64)
			}
			if !Fits(w, l) {
				t.Errorf("%d words of the mark of %d, %d with each bit turned back", n, c[0], c[1])
			}
		}
	}
}

func TestABitTurnedInManyWordsDoesNotFit(t *testing.T) {
	l := randomWords(rand.New(rand.NewSource(6)), 2000)
	w := marked(t, 255, 2000, l)
	for i := 0; i < 64*len(l); i += 997 {
		l[i/64] ^= 1 << (i % 64)
		if Fits(w, l) {
			t.Error("2000 words with the bit", i, "turned")
		}
		l[i/64] ^= 1 << (i % 64)
	}
}

func TestABitTurnedChangesTheSum(t *testing.T) {
	for _, l := range [][]uint64{{0}, {math.MaxUint64}, {1, 2, 3}} {
		was := Of(l)
		for i := range 64 * len(l) {
			l[i/64] ^= 1 << (i % 64)
			if Of(l) == was {
				t.Errorf("%x has the sum of the words without the bit %d turned", l, i)
			}
			l[i/64] ^= 1 << (i % 64)
		}
	}
}

// The rules that hold everywhere.

func TestSumsChangeNothingHandedIn(t *testing.T) {
	l, b := []uint64{5, 6, 7, 8}, []byte{5, 6, 7, 8}
	w := marked(t, 7, 300, l[:2])
	Of(l[:2])
	Bytes(b[:2])
	Fits(w, l[:2])
	if !slices.Equal(l, []uint64{5, 6, 7, 8}) || !slices.Equal(b, []byte{5, 6, 7, 8}) {
		t.Error("what was handed in was changed:", l, b)
	}
}

func TestSumsHangOnNothingElse(t *testing.T) {
	for range 3 {
		if Of([]uint64{1, 2}) != bitwise(bytesOf([]uint64{1, 2})) || Bytes([]byte("a")) != 0xc1d04330 {
			t.Error("a sum hangs on those ahead of it")
		}
		Mark(256, 0, []uint64{3})
		Fits(0, []uint64{4})
	}
}

// leaveVariables sees to it that the next test finds the variables as if no call had come yet.
func leaveVariables(t *testing.T) {
	t.Cleanup(func() { once, table = sync.Once{}, [256]uint32{} })
}

// TestNoAnswerHangsOnTheVariables puts right and wrong tables, made and yet to be made, ahead of each call.
func TestNoAnswerHangsOnTheVariables(t *testing.T) {
	leaveVariables(t)
	var zeros, ones, nearly [256]uint32
	for i := range ones {
		ones[i] = math.MaxUint32
	}
	right := folded(half)
	nearly = right
	nearly['1'^0xff]++ // what the text below asks for first, wrong alone
	w := markOf(7, 300, []uint64{1, 2})
	for i, stands := range [][256]uint32{zeros, ones, right, nearly} {
		for _, made := range []bool{false, true} {
			for j, call := range []func() bool{
				func() bool { return Of([]uint64{0x3837363534333231}) == bitwise([]byte("12345678")) },
				func() bool { return Of(nil) == 0 },
				func() bool { return Bytes([]byte("123456789")) == 0xe3069283 },
				func() bool { return Bytes(nil) == 0 },
				func() bool { m, ok := Mark(7, 300, []uint64{1, 2}); return ok && m == w },
				func() bool { m, ok := Mark(256, 300, []uint64{1, 2}); return !ok && m == 0 },
				func() bool { kind, n, sum := Open(w); return kind == 7 && n == 300 && sum == uint32(w) },
				func() bool { return Fits(w, []uint64{1, 2}) },
				func() bool { return !Fits(w^1, []uint64{1, 2}) },
			} {
				once, table = sync.Once{}, stands
				if made {
					once.Do(func() {})
				}
				if !call() || !call() {
					t.Errorf("the call %d, where the table %d stands, made: %t", j, i, made)
				}
			}
		}
	}
}

func TestTheTableIsMadeOnce(t *testing.T) {
	leaveVariables(t)
	once, table = sync.Once{}, [256]uint32{}
	Bytes(nil)
	if made := table; made != folded(half) {
		t.Error("the table isn't made by the first call that takes it")
	}
	table[1]++
	changed := table
	if x := Bytes([]byte("123456789")); x != 0xe3069283 {
		t.Errorf("%08x", x)
	}
	if stands := table; stands != changed {
		t.Error("the table was made a second time")
	}
}

func TestTheTableHasWhatEachByteMakesOfASum(t *testing.T) {
	for i, x := range folded(half) {
		// The sum of one byte, its bits turned back, is the number that its low bits choose, xored with the upper bits of the first sum.
		if want := ^bitwise([]byte{byte(i) ^ 0xff}) ^ 0x00ffffff; x != want {
			t.Errorf("%d: %08x, not %08x", i, x, want)
		}
	}
}
