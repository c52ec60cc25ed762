package anchor

import (
	"encoding/binary"
	"hash/crc32"
	"math"
	"math/rand"
	"slices"
	"testing"

	"gimmal/api"
	"gimmal/disk"
)

// greatest is the greatest number and epoch, mostWords how many words an area has at most, as the document names them.
const (
	greatest  = 1<<32 - 1
	mostWords = 1 << 20
)

// zeros is the sector of no anchor.
var zeros [8]uint64

// markOf tells a mark as the document's words do.
func markOf(kind, n uint64, l ...uint64) uint64 {
	var b []byte
	for _, w := range append([]uint64{kind, n}, l...) {
		b = binary.LittleEndian.AppendUint64(b, w)
	}
	sum := crc32.Checksum(b, crc32.MakeTable(crc32.Castagnoli))
	return kind<<56 | n<<32 | uint64(sum)
}

// sectorOf tells an anchor's sector as the document's words do, whether it may be or not.
func sectorOf(a api.Anchor) [8]uint64 {
	l := []uint64{uint64(a.Number), uint64(a.Epoch), uint64(a.Area), uint64(a.Words)}
	return [8]uint64{markOf(9, l[0]&0xffffff, l...), l[0], l[1], l[2], l[3]}
}

// placeOf tells the sector to which an anchor is written as the document's words do.
func placeOf(a api.Anchor) int {
	if a.Number&1 == 0 {
		return 0
	}
	return 1
}

// mayBe tells whether an anchor may be as the document's words do.
func mayBe(a api.Anchor) bool {
	return a.Number > 0 && a.Number < 1<<32 && a.Epoch > -1 && a.Epoch < 1<<32 &&
		(a.Area == 0 || a.Area == 1) && a.Words > -1 && a.Words < 1<<20+1
}

// Numbers, epochs, areas and words that there are.
var (
	someNumbers = []int{1, 2, 3, 255, 256, 1<<24 - 2, 1<<24 - 1, 1 << 24, 1<<24 + 1, 1<<25 - 1, 1 << 25, 1 << 31, greatest - 1, greatest}
	someEpochs  = []int{0, 1, 7, 1 << 24, 1 << 31, greatest - 1, greatest}
	someAreas   = []int{0, 1}
	someWords   = []int{0, 1, 8, 300, mostWords - 1, mostWords}
)

// Numbers, epochs, areas and words that there aren't; some would be right if higher bits were cut off, or their sign.
var (
	noNumbers = []int{0, -1, -2, -1 << 24, 1 << 32, 1<<32 + 1, 1<<32 + 2, 1<<33 - 1, 1 << 40, 1<<56 + 1, -1<<32 + 1, math.MinInt, math.MinInt + 1, math.MaxInt}
	noEpochs  = []int{-1, -2, 1 << 32, 1<<32 + 7, 1<<33 - 1, 1 << 48, -1 << 32, math.MinInt, math.MaxInt}
	noAreas   = []int{-1, -2, 2, 3, 4, 256, 1 << 32, 1<<32 + 1, math.MinInt, math.MinInt + 1, math.MaxInt}
	noWords   = []int{-1, -2, mostWords + 1, mostWords + 2, 1 << 21, 1 << 32, 1<<32 + 8, -1 << 20, math.MinInt, math.MaxInt}
)

// good tells anchors that may be: all of the numbers, epochs, areas and words that there are, with each other.
func good() []api.Anchor {
	var all []api.Anchor
	for _, n := range someNumbers {
		for _, e := range someEpochs {
			for _, a := range someAreas {
				for _, w := range someWords {
					all = append(all, api.Anchor{Number: n, Epoch: e, Area: a, Words: w})
				}
			}
		}
	}
	return all
}

// wrong tells anchors that may not be: in each field, for itself and with others.
func wrong() []api.Anchor {
	all := []api.Anchor{{}, {Epoch: -1}, {Area: 2}, {Number: -1, Epoch: -1, Area: -1, Words: -1}, {Number: 1 << 32, Epoch: 1 << 32, Area: 2, Words: mostWords + 1}}
	for _, a := range []api.Anchor{{Number: 1}, {Number: 2, Epoch: 7, Area: 1, Words: 300}, {Number: greatest, Epoch: greatest, Area: 1, Words: mostWords}} {
		for _, n := range noNumbers {
			all = append(all, api.Anchor{Number: n, Epoch: a.Epoch, Area: a.Area, Words: a.Words})
		}
		for _, e := range noEpochs {
			all = append(all, api.Anchor{Number: a.Number, Epoch: e, Area: a.Area, Words: a.Words})
		}
		for _, x := range noAreas {
			all = append(all, api.Anchor{Number: a.Number, Epoch: a.Epoch, Area: x, Words: a.Words})
		}
		for _, w := range noWords {
			all = append(all, api.Anchor{Number: a.Number, Epoch: a.Epoch, Area: a.Area, Words: w})
		}
	}
	return all
}

// few tells some anchors that may be, for what is tried of each at length.
func few() []api.Anchor {
	return []api.Anchor{
		{Number: 1}, {Number: 2}, {Number: 1<<24 + 5, Epoch: 7, Area: 1, Words: 300}, {Number: 1 << 24, Epoch: 1, Area: 0, Words: 1},
		{Number: 1<<24 - 1, Epoch: 2, Area: 1}, {Number: greatest, Epoch: greatest, Area: 1, Words: mostWords},
	}
}

// notRead sees to it that a sector is that of no anchor.
func notRead(t *testing.T, s [8]uint64) {
	t.Helper()
	if a, ok := Read(s); ok || a != (api.Anchor{}) {
		t.Errorf("Read(%x): %d, %t", s, a, ok)
	}
}

// made tells a device of which each sector has something that is no anchor's, all synced.
func made(t *testing.T, n int) *disk.Disk {
	t.Helper()
	d := disk.New(n)
	for i := range n {
		put(t, d, i, [8]uint64{uint64(i) + 1, 2, 3, 4, 5, 6, 7, 8})
	}
	d.Sync()
	return d
}

// put writes a sector that there must be.
func put(t *testing.T, d *disk.Disk, i int, s [8]uint64) {
	t.Helper()
	if e := d.Write(i, s); e != api.OK {
		t.Fatalf("sector %d: %d", i, e)
	}
}

// write writes an anchor that may be to a device that has its sector.
func write(t *testing.T, d *disk.Disk, a api.Anchor) {
	t.Helper()
	if e := Write(d, a); e != api.OK {
		t.Fatalf("Write(%d): %d", a, e)
	}
}

// finds sees to it that a device has that anchor.
func finds(t *testing.T, d *disk.Disk, want api.Anchor) {
	t.Helper()
	if a, e := Find(d); a != want || e != api.OK {
		t.Errorf("Find: %d, %d, not %d", a, e, want)
	}
}

// findsNone sees to it that Find tells an error, and a zero anchor.
func findsNone(t *testing.T, d *disk.Disk, want api.Errno) {
	t.Helper()
	if a, e := Find(d); a != (api.Anchor{}) || e != want {
		t.Errorf("Find: %d, %d, not the error %d", a, e, want)
	}
}

// shot is all that may be seen of a device.
type shot struct {
	read, lasting [][8]uint64
	dirty         []int
	writes, syncs int64
}

func seen(d *disk.Disk) shot {
	s := shot{dirty: d.Dirty(), writes: d.Writes(), syncs: d.Syncs()}
	for i := range d.Len() {
		r, _ := d.Read(i)
		s.read, s.lasting = append(s.read, r), append(s.lasting, d.Lasting(i))
	}
	return s
}

// isAs sees to it that a device is as it was seen.
func isAs(t *testing.T, d *disk.Disk, was shot) {
	t.Helper()
	is := seen(d)
	if !slices.Equal(is.read, was.read) || !slices.Equal(is.lasting, was.lasting) || !slices.Equal(is.dirty, was.dirty) || is.writes != was.writes || is.syncs != was.syncs {
		t.Errorf("the device is %x, not %x", is, was)
	}
}

func keepNone(int) bool { return false }
func keepAll(int) bool  { return true }

// P7.1

func TestSectorAndRead(t *testing.T) {
	for _, a := range good() {
		s, ok := Sector(a)
		if !ok || s != sectorOf(a) {
			t.Errorf("Sector(%d): %x, %t, not %x", a, s, ok, sectorOf(a))
		}
		if b, ok := Read(sectorOf(a)); !ok || b != a {
			t.Errorf("Read of the sector of %d: %d, %t", a, b, ok)
		}
	}
}

// TestSectorInNumbers holds a sector against words that were worked out apart from any code here, but for the sum.
func TestSectorInNumbers(t *testing.T) {
	for _, c := range []struct {
		number int
		high   uint64
	}{{1, 0x09000001}, {1<<24 - 1, 0x09ffffff}, {1 << 24, 0x09000000}, {1<<24 + 5, 0x09000005}, {1 << 31, 0x09000000}, {greatest, 0x09ffffff}} {
		s, _ := Sector(api.Anchor{Number: c.number, Epoch: 2, Area: 1, Words: 3})
		if s[0]>>32 != c.high {
			t.Errorf("the mark of %d: %x", c.number, s[0])
		}
		if !slices.Equal(s[1:], []uint64{uint64(c.number), 2, 1, 3, 0, 0, 0}) {
			t.Errorf("the words of %d: %x", c.number, s[1:])
		}
	}
}

func TestSectorOfOneThatMayNotBe(t *testing.T) {
	for _, a := range wrong() {
		if s, ok := Sector(a); ok || s != zeros {
			t.Errorf("Sector(%d): %x, %t", a, s, ok)
		}
	}
}

func TestReadOfOneThatMayNotBe(t *testing.T) {
	for _, a := range wrong() {
		notRead(t, sectorOf(a))
	}
}

// TestAllAnchorsApart sees to it that no two anchors have one sector.
func TestAllAnchorsApart(t *testing.T) {
	whose := map[[8]uint64]api.Anchor{}
	for _, a := range good() {
		s, _ := Sector(a)
		if b, ok := whose[s]; ok {
			t.Errorf("%d and %d have one sector", a, b)
		}
		whose[s] = a
	}
}

func TestReadOfOneBitTurned(t *testing.T) {
	for _, a := range few() {
		for i := range 8 {
			for bit := range 64 {
				s := sectorOf(a)
				s[i] ^= 1 << bit
				notRead(t, s)
			}
		}
	}
}

func TestReadOfAZeroBehindTurned(t *testing.T) {
	for _, a := range few() {
		for i := 5; i < 8; i++ {
			for _, x := range []uint64{1, 2, 1 << 32, 1 << 63, math.MaxUint64, uint64(a.Number)} {
				s := sectorOf(a)
				s[i] = x
				notRead(t, s)
			}
		}
	}
}

// TestReadOfAMarkOfAllWords: the mark is of the four words, and not of the zeros too.
func TestReadOfAMarkOfAllWords(t *testing.T) {
	for _, a := range few() {
		s := sectorOf(a)
		for end := 1; end <= 8; end++ {
			x := s
			x[0] = markOf(9, uint64(a.Number)&0xffffff, s[1:end]...)
			if end == 5 {
				continue
			}
			notRead(t, x)
		}
	}
}

func TestReadOfAMarkOfAnotherKind(t *testing.T) {
	for _, a := range few() {
		s := sectorOf(a)
		for kind := range uint64(256) {
			x := s
			x[0] = markOf(kind, uint64(a.Number)&0xffffff, s[1:5]...)
			if b, ok := Read(x); ok != (kind == 9) || ok && b != a || !ok && b != (api.Anchor{}) {
				t.Errorf("of the kind %d: %d, %t", kind, b, ok)
			}
		}
	}
}

func TestReadOfAMarkOfAnotherNumber(t *testing.T) {
	for _, a := range few() {
		s := sectorOf(a)
		own := uint64(a.Number) & 0xffffff
		for _, n := range []uint64{own - 1, own + 1, own ^ 1<<23, own ^ 1, own ^ 0xffffff, 0, 1, 5, 1<<24 - 1} {
			if n &= 0xffffff; n == own {
				continue
			}
			x := s
			x[0] = markOf(9, n, s[1:5]...)
			notRead(t, x)
		}
	}
}

// TestReadOfWordsOfTwoAnchors: a sector that has the mark of one anchor and words of another is that of none.
func TestReadOfWordsOfTwoAnchors(t *testing.T) {
	for _, a := range few() {
		for _, b := range few() {
			for torn := 1; torn < 5; torn++ {
				x, s := sectorOf(a), sectorOf(b)
				copy(x[torn:], s[torn:])
				if x == sectorOf(a) || x == s {
					continue
				}
				notRead(t, x)
			}
		}
	}
}

func TestReadOfWordsThatAreNoSector(t *testing.T) {
	full := [8]uint64{}
	for i := range full {
		full[i] = math.MaxUint64
	}
	notRead(t, zeros)
	notRead(t, full)
	notRead(t, [8]uint64{0, 1})
	notRead(t, [8]uint64{0, 1, 0, 1, 8})
	notRead(t, [8]uint64{markOf(9, 0)})
	notRead(t, [8]uint64{markOf(9, 1), 1})
	notRead(t, [8]uint64{markOf(0, 0, 0, 0, 0, 0)})
	rnd := rand.New(rand.NewSource(1))
	for range 2000 {
		var s [8]uint64
		for i := range s {
			s[i] = rnd.Uint64() >> rnd.Intn(64)
		}
		notRead(t, s)
		s[0], s[1] = 9<<56|1<<32|s[0]>>32, 1
		notRead(t, s)
	}
}

// TestAnyAnchorAgainstAModel holds Sector, Read and Write of any anchors, near the edges and far, against the document's words.
func TestAnyAnchorAgainstAModel(t *testing.T) {
	rnd := rand.New(rand.NewSource(3))
	edges := []int{-1, 0, 1, 2, 1<<20 - 1, 1 << 20, 1<<20 + 1, 1<<24 - 1, 1 << 24, 1<<32 - 1, 1 << 32}
	one := func() int { return edges[rnd.Intn(len(edges))] }
	for range 20000 {
		a := api.Anchor{Number: one(), Epoch: one(), Area: rnd.Intn(4) - 1, Words: one()}
		want, d := zeros, disk.New(2)
		if mayBe(a) {
			want = sectorOf(a)
		}
		if s, ok := Sector(a); s != want || ok != mayBe(a) {
			t.Fatalf("Sector(%d): %x, %t", a, s, ok)
		}
		if b, ok := Read(sectorOf(a)); ok != mayBe(a) || ok && b != a || !ok && b != (api.Anchor{}) {
			t.Fatalf("Read of the sector of %d: %d, %t", a, b, ok)
		}
		if e := Write(d, a); (e == api.OK) != mayBe(a) || e != api.OK && e != api.ErrArg {
			t.Fatalf("Write(%d): %d", a, e)
		}
	}
}

func TestSectorsAreNotKept(t *testing.T) {
	a := api.Anchor{Number: 3, Epoch: 1, Area: 1, Words: 8}
	s, _ := Sector(a)
	s[1] = 99
	if r, ok := Sector(a); !ok || r != sectorOf(a) {
		t.Errorf("%x", r)
	}
	s = sectorOf(a)
	Read(s)
	if s != sectorOf(a) {
		t.Errorf("%x", s)
	}
}

// P7.2

func TestWrite(t *testing.T) {
	for _, a := range good() {
		d := made(t, 4)
		want := seen(d)
		write(t, d, a)
		place := placeOf(a)
		want.read[place], want.dirty = sectorOf(a), []int{place}
		want.writes++
		isAs(t, d, want)
	}
}

// TestWriteIsNotSynced: what was written, and what was written ahead of it, hangs on what a crash takes until the device is synced.
func TestWriteIsNotSynced(t *testing.T) {
	for _, a := range few() {
		d := made(t, 3)
		put(t, d, 2, [8]uint64{99})
		was := seen(d)
		write(t, d, a)
		d.Crash(keepNone)
		if s, _ := d.Read(2); s != was.lasting[2] {
			t.Errorf("the sector 2 lasts: %x", s)
		}
		if s, _ := d.Read(placeOf(a)); s != was.lasting[placeOf(a)] || d.Syncs() != 1 {
			t.Errorf("%d lasts: %x", a, s)
		}
		findsNone(t, d, api.ErrNone)
	}
}

func TestWriteOfOneThatMayNotBe(t *testing.T) {
	for _, a := range wrong() {
		d := made(t, 2)
		write(t, d, api.Anchor{Number: 6, Epoch: 5})
		was := seen(d)
		if e := Write(d, a); e != api.ErrArg {
			t.Errorf("Write(%d): %d", a, e)
		}
		isAs(t, d, was)
	}
}

// TestWriteOfOneThatMayNotBeNowhere: that it may not be is told ahead of that there is no sector for it.
func TestWriteOfOneThatMayNotBeNowhere(t *testing.T) {
	for _, a := range wrong() {
		for _, d := range []*disk.Disk{nil, {}, disk.New(1)} {
			if e := Write(d, a); e != api.ErrArg || d.Writes() != 0 {
				t.Errorf("Write(%d): %d", a, e)
			}
		}
	}
}

func TestWriteWithoutTheSector(t *testing.T) {
	for _, a := range few() {
		for _, d := range []*disk.Disk{nil, {}, disk.New(0)} {
			if e := Write(d, a); e != api.ErrRange {
				t.Errorf("Write(%d): %d", a, e)
			}
		}
		d := made(t, 1)
		want, code := seen(d), api.ErrRange
		if placeOf(a) == 0 {
			// The sector 0 is there: a device's error is only that of the sector that is written.
			want.read[0], want.dirty, code = sectorOf(a), []int{0}, api.OK
			want.writes++
		}
		if e := Write(d, a); e != code {
			t.Errorf("Write(%d) to one sector: %d", a, e)
		}
		isAs(t, d, want)
	}
}

func TestFindOfNoAnchor(t *testing.T) {
	for _, n := range []int{2, 3, 4096} {
		findsNone(t, disk.New(n), api.ErrNone)
	}
	findsNone(t, made(t, 2), api.ErrNone)
	findsNone(t, made(t, 9), api.ErrNone)
}

func TestFindOfFewerThanTwoSectors(t *testing.T) {
	findsNone(t, nil, api.ErrRange)
	findsNone(t, &disk.Disk{}, api.ErrRange)
	findsNone(t, disk.New(1), api.ErrRange)
	d := disk.New(1)
	write(t, d, api.Anchor{Number: 2})
	findsNone(t, d, api.ErrRange)
	d.Sync()
	findsNone(t, d, api.ErrRange)
}

func TestFindOfOneAlone(t *testing.T) {
	for _, a := range good() {
		d := disk.New(2)
		put(t, d, placeOf(a), sectorOf(a))
		finds(t, d, a)
		put(t, d, 1-placeOf(a), [8]uint64{9, 9, 9, 9, 9, 9, 9, 9})
		finds(t, d, a)
	}
}

func TestFindOfTwo(t *testing.T) {
	for _, a := range good() {
		for _, n := range someNumbers {
			// All else of the other one is less, or more, so that nothing but the number tells which counts.
			for _, b := range []api.Anchor{{Number: n}, {Number: n, Epoch: greatest, Area: 1, Words: mostWords}} {
				if placeOf(a) == placeOf(b) {
					continue
				}
				d := disk.New(2)
				put(t, d, placeOf(a), sectorOf(a))
				put(t, d, placeOf(b), sectorOf(b))
				want := a
				if b.Number > a.Number {
					want = b
				}
				finds(t, d, want)
			}
		}
	}
}

// TestFindBelievesNoTornOne: of two of which the greater one isn't whole, the other one is told.
func TestFindBelievesNoTornOne(t *testing.T) {
	for _, less := range []api.Anchor{{Number: 6, Epoch: 1}, {Number: 7, Epoch: 1, Area: 1, Words: 5}} {
		greater := api.Anchor{Number: less.Number + 1, Epoch: 2, Area: 1 - less.Area, Words: 9}
		for i := range 8 {
			for bit := range 64 {
				d := disk.New(2)
				write(t, d, less)
				s := sectorOf(greater)
				s[i] ^= 1 << bit
				put(t, d, placeOf(greater), s)
				finds(t, d, less)
			}
		}
	}
}

// TestFindBelievesNoneThatMayNotBe: of an anchor that may not be no sector is told, though its mark is right, and its number the greater one.
func TestFindBelievesNoneThatMayNotBe(t *testing.T) {
	for _, a := range wrong() {
		d := disk.New(2)
		put(t, d, placeOf(a), sectorOf(a))
		findsNone(t, d, api.ErrNone)
		b := api.Anchor{Number: 1 + placeOf(a), Epoch: 4}
		write(t, d, b)
		finds(t, d, b)
	}
}

// TestFindOfAnAnchorInTheOtherSector: an anchor that stands where its number doesn't put it doesn't count.
func TestFindOfAnAnchorInTheOtherSector(t *testing.T) {
	for _, a := range good() {
		d := disk.New(3)
		put(t, d, 1-placeOf(a), sectorOf(a))
		findsNone(t, d, api.ErrNone)
		// A lesser one, of like parity, in its own sector, is the device's.
		least := api.Anchor{Number: 2 - placeOf(a), Epoch: 3}
		write(t, d, least)
		finds(t, d, least)
		// One of the other parity in its stead: both stand in the other's sector.
		put(t, d, placeOf(a), sectorOf(api.Anchor{Number: 1 + placeOf(a)}))
		findsNone(t, d, api.ErrNone)
	}
	d := disk.New(2)
	a := api.Anchor{Number: 4, Epoch: 1}
	put(t, d, 0, sectorOf(a))
	put(t, d, 1, sectorOf(a))
	finds(t, d, a)
}

func TestFindLooksAtNoOtherSectors(t *testing.T) {
	d := disk.New(5)
	for i, n := range []int{8, 9, 10} {
		put(t, d, 2+i, sectorOf(api.Anchor{Number: n}))
	}
	findsNone(t, d, api.ErrNone)
	write(t, d, api.Anchor{Number: 3, Epoch: 1})
	finds(t, d, api.Anchor{Number: 3, Epoch: 1})
	write(t, d, api.Anchor{Number: 2, Epoch: 2})
	finds(t, d, api.Anchor{Number: 3, Epoch: 1})
}

// TestNumbersOfLikeParity: they share a sector, which has the one that was written last, the lesser one too.
func TestNumbersOfLikeParity(t *testing.T) {
	d := disk.New(2)
	for _, c := range []struct{ written, found int }{{2, 2}, {4, 4}, {2, 2}, {1, 2}, {3, 3}, {5, 5}, {1, 2}, {8, 8}, {7, 8}, {4, 7}, {9, 9}, {greatest, greatest}, {greatest - 1, greatest}, {1, greatest - 1}, {2, 2}} {
		write(t, d, api.Anchor{Number: c.written, Epoch: c.written})
		finds(t, d, api.Anchor{Number: c.found, Epoch: c.found})
	}
}

func TestExample(t *testing.T) {
	d := disk.New(2)
	for n := 1; n <= 3; n++ {
		write(t, d, api.Anchor{Number: n})
		finds(t, d, api.Anchor{Number: n})
	}
}

func TestFindChangesNothing(t *testing.T) {
	for _, n := range []int{1, 2, 5} {
		d := made(t, n)
		Write(d, api.Anchor{Number: 2, Epoch: 1})
		d.Sync()
		Write(d, api.Anchor{Number: 3, Epoch: 2})
		was := seen(d)
		a, e := Find(d)
		b, f := Find(d)
		if a != b || e != f {
			t.Errorf("%d, %d, then %d, %d", a, e, b, f)
		}
		isAs(t, d, was)
	}
}

func TestACopyIsApart(t *testing.T) {
	d := disk.New(2)
	write(t, d, api.Anchor{Number: 1})
	c := d.Copy()
	write(t, c, api.Anchor{Number: 2})
	finds(t, c, api.Anchor{Number: 2})
	finds(t, d, api.Anchor{Number: 1})
}

// P7.3

// TestCrashOfTheNewest: each anchor is written behind one that was synced; a crash takes it, or leaves it.
func TestCrashOfTheNewest(t *testing.T) {
	for _, from := range []int{1, 2, 1<<24 - 2, 1<<31 - 2, greatest - 5} {
		for lasting := range 1 << 5 {
			d := disk.New(2)
			ahead := api.Anchor{Number: from}
			write(t, d, ahead)
			d.Sync()
			for i := range 5 {
				newest := api.Anchor{Number: ahead.Number + 1, Epoch: ahead.Epoch + 1, Area: 1 - ahead.Area, Words: 10 * i}
				write(t, d, newest)
				finds(t, d, newest)
				if lasting>>i&1 == 1 {
					d.Crash(keepAll)
					ahead = newest
				} else {
					d.Crash(keepNone)
				}
				finds(t, d, ahead)
			}
		}
	}
}

// TestCrashOfTheFirst: without one ahead there is none behind the crash, or the first one.
func TestCrashOfTheFirst(t *testing.T) {
	for _, a := range few() {
		d := disk.New(2)
		write(t, d, a)
		d.Crash(keepNone)
		findsNone(t, d, api.ErrNone)
		write(t, d, a)
		d.Crash(keepAll)
		finds(t, d, a)
		d.Crash(keepNone)
		finds(t, d, a)
	}
}

// TestCrashBehindASync: what was synced is found, whatever lasts of nothing.
func TestCrashBehindASync(t *testing.T) {
	d := disk.New(2)
	for n := 1; n < 9; n++ {
		a := api.Anchor{Number: n, Epoch: n, Area: n % 2, Words: n}
		write(t, d, a)
		d.Sync()
		d.Crash(keepNone)
		finds(t, d, a)
		d.Crash(keepAll)
		finds(t, d, a)
	}
}

// TestAnyCrashesAgainstAModel does what a checkpoint does, with other sectors written, syncs and crashes of which each sector lasts or doesn't: the newest anchor is found, or the one ahead.
func TestAnyCrashesAgainstAModel(t *testing.T) {
	rnd := rand.New(rand.NewSource(7))
	for range 300 {
		d := disk.New(4)
		synced, number := []api.Anchor{{}}, 1+rnd.Intn(3)*(1<<24-3)
		for range 20 {
			last := synced[len(synced)-1]
			newest := api.Anchor{Number: number, Epoch: rnd.Intn(9), Area: rnd.Intn(2), Words: rnd.Intn(99)}
			put(t, d, 2+rnd.Intn(2), [8]uint64{rnd.Uint64()})
			write(t, d, newest)
			put(t, d, 2+rnd.Intn(2), sectorOf(api.Anchor{Number: greatest}))
			finds(t, d, newest)
			kept, lasts := rnd.Intn(1<<4), true
			if rnd.Intn(2) == 0 {
				d.Sync()
			} else {
				lasts = kept>>placeOf(newest)&1 == 1
			}
			d.Crash(func(i int) bool { return kept>>i&1 == 1 })
			switch {
			case lasts:
				finds(t, d, newest)
				synced, number = append(synced, newest), number+1
			case last == (api.Anchor{}):
				findsNone(t, d, api.ErrNone)
			default:
				finds(t, d, last)
			}
		}
	}
}

// The rules that hold everywhere.

// TestSameDoneSameAnswered: two devices to which the same was done tell the same.
func TestSameDoneSameAnswered(t *testing.T) {
	rnd := rand.New(rand.NewSource(9))
	all := append(good(), wrong()...)
	one, other := disk.New(3), disk.New(3)
	for range 2000 {
		a := all[rnd.Intn(len(all))]
		if e, f := Write(one, a), Write(other, a); e != f {
			t.Fatalf("Write(%d): %d and %d", a, e, f)
		}
		isAs(t, one, seen(other))
		b, e := Find(one)
		if c, f := Find(other); b != c || e != f {
			t.Fatalf("%d, %d and %d, %d", b, e, c, f)
		}
	}
}
