package log

import (
	"encoding/binary"
	"hash/crc32"
	"math"
	"math/bits"
	"math/rand"
	"slices"
	"testing"

	"gimmal/api"
	"gimmal/disk"
)

// greatest is the greatest epoch, most how many words a frame has at most, as the document names them.
const (
	greatest = 1<<32 - 1
	most     = 2000
)

// The model: what the document's words say, done plainly.

// markOf tells a mark as the document's words do.
func markOf(kind, n uint64, l ...uint64) uint64 {
	var b []byte
	for _, w := range append([]uint64{kind, n}, l...) {
		b = binary.LittleEndian.AppendUint64(b, w)
	}
	sum := crc32.Checksum(b, crc32.MakeTable(crc32.Castagnoli))
	return kind<<56 | n<<32 | uint64(sum)
}

// wordsOf tells the words of a frame as the document's words do.
func wordsOf(epoch, n int, f api.Frame) []uint64 {
	l := append([]uint64{uint64(epoch), uint64(n)}, f.Words...)
	return append([]uint64{markOf(uint64(f.Kind), uint64(len(f.Words)), l...)}, f.Words...)
}

// streamOf tells the words of frames as a stream as the document's words do.
func streamOf(epoch int, l []api.Frame) []uint64 {
	var all []uint64
	for n, f := range l {
		all = append(all, wordsOf(epoch, n, f)...)
	}
	return all
}

// mayBe tells whether a frame may be as the document's words do.
func mayBe(f api.Frame) bool { return f.Kind > 0 && f.Kind < 256 && len(f.Words) <= most }

// standing tells the frames that stand at the beginning of words, as the document's words do.
func standing(epoch int, l []uint64) []api.Frame {
	var all []api.Frame
	for len(l) > 0 {
		end := 1 + int(l[0]>>32&0xffffff)
		if end > len(l) {
			break
		}
		f := api.Frame{Kind: int(l[0] >> 56), Words: l[1:end]}
		if !mayBe(f) || wordsOf(epoch, len(all), f)[0] != l[0] {
			break
		}
		all, l = append(all, f), l[end:]
	}
	return copied(all)
}

// shot is all that may be seen of a device.
type shot struct {
	read, lasting [][8]uint64
	dirty         []int
	writes, syncs int64
}

// seen tells all that may be seen of a device now.
func seen(d *disk.Disk) *shot {
	s := &shot{dirty: d.Dirty(), writes: d.Writes(), syncs: d.Syncs()}
	for i := range d.Len() {
		r, _ := d.Read(i)
		s.read, s.lasting = append(s.read, r), append(s.lasting, d.Lasting(i))
	}
	return s
}

// write does to what was seen what a write does to the device.
func (s *shot) write(i int, x [8]uint64) {
	s.read[i] = x
	s.writes++
	s.dirty = append(s.dirty, i)
	slices.Sort(s.dirty)
	s.dirty = slices.Compact(s.dirty)
}

// sync does to what was seen what a sync does to the device.
func (s *shot) sync() {
	s.lasting, s.dirty = slices.Clone(s.read), nil
	s.syncs++
}

// crash does to what was seen what a crash does to the device.
func (s *shot) crash(keep func(int) bool) {
	for _, i := range s.dirty {
		if !keep(i) {
			s.read[i] = s.lasting[i]
		}
	}
	s.lasting, s.dirty = slices.Clone(s.read), nil
}

// model is a log of which frames alone are kept, and all else is told by them.
type model struct {
	s                    *shot
	from, sectors, epoch int
	frames               []api.Frame
}

// words tells how many words the frames take.
func (m *model) words() int {
	n := 0
	for _, f := range m.frames {
		n += 1 + len(f.Words)
	}
	return n
}

// modelOpen opens a log of what was seen of a device.
func modelOpen(s *shot, from, sectors, epoch int) (*model, api.Errno) {
	if sectors < 1 || from < 0 || from >= len(s.read) || sectors > len(s.read) || from+sectors > len(s.read) {
		return nil, api.ErrRange
	}
	if epoch < 0 || epoch > greatest {
		return nil, api.ErrArg
	}
	m := &model{s: s, from: from, sectors: sectors, epoch: epoch}
	var there []uint64
	for _, x := range s.read[from : from+sectors] {
		there = append(there, x[:]...)
	}
	m.frames = standing(epoch, there)
	foul := false
	for i := range sectors {
		if m.isFoul(i) {
			s.write(from+i, m.sector(i))
			foul = true
		}
	}
	if foul {
		s.sync()
	}
	return m, api.OK
}

// isFoul tells whether in the i-th sector a word behind the frames isn't 0.
func (m *model) isFoul(i int) bool {
	for k, w := range m.s.read[m.from+i] {
		if w != 0 && 8*i+k >= m.words() {
			return true
		}
	}
	return false
}

// sector tells the words of the frames in the i-th sector, and zeros.
func (m *model) sector(i int) [8]uint64 {
	var x [8]uint64
	for k, w := range streamOf(m.epoch, m.frames) {
		if k/8 == i {
			x[k%8] = w
		}
	}
	return x
}

// append appends a frame.
func (m *model) append(f api.Frame) api.Errno {
	was := m.words()
	if !mayBe(f) {
		return api.ErrArg
	}
	if was+1+len(f.Words) > 8*m.sectors {
		return api.ErrFull
	}
	m.frames = append(m.frames, copied([]api.Frame{f})...)
	for i := was / 8; 8*i < was+1+len(f.Words); i++ {
		m.s.write(m.from+i, m.sector(i))
	}
	return api.OK
}

// both is a log and its model, to which the same is done.
type both struct {
	d *disk.Disk
	s *shot
	l *Log
	m *model
}

// opened opens a log, and its model, of a device, and sees to it that they are the same.
func opened(t *testing.T, d *disk.Disk, from, sectors, epoch int) *both {
	t.Helper()
	b := &both{d: d, s: seen(d)}
	m, want := modelOpen(b.s, from, sectors, epoch)
	l, e := Open(d, from, sectors, epoch)
	if e != want || (l == nil) != (m == nil) {
		t.Fatalf("Open(%d, %d, %d): %d, not %d", from, sectors, epoch, e, want)
	}
	if l == nil {
		isAs(t, d, b.s)
		return nil
	}
	b.l, b.m = l, m
	b.same(t)
	return b
}

// append appends a frame to both.
func (b *both) append(t *testing.T, f api.Frame) api.Errno {
	t.Helper()
	was := slices.Clone(f.Words[:cap(f.Words)])
	want := b.m.append(f)
	if e := b.l.Append(f); e != want {
		t.Fatalf("Append of the kind %d with %d words: %d, not %d", f.Kind, len(f.Words), e, want)
	}
	if !slices.Equal(was, f.Words[:cap(f.Words)]) {
		t.Fatalf("Append changes the frame, or its spare room")
	}
	b.same(t)
	return want
}

// sync syncs both.
func (b *both) sync(t *testing.T) {
	t.Helper()
	b.s.sync()
	b.l.Sync()
	b.same(t)
}

// same sees to it that a log is as its model is, and its device as the model's.
func (b *both) same(t *testing.T) {
	t.Helper()
	n := b.m.words()
	if b.l.Words() != n || b.l.Room() != 8*b.m.sectors-n || b.l.Epoch() != b.m.epoch {
		t.Fatalf("%d words, room for %d, the epoch %d, not %d, %d, %d", b.l.Words(), b.l.Room(), b.l.Epoch(), n, 8*b.m.sectors-n, b.m.epoch)
	}
	if all := b.l.Frames(); !sameFrames(all, b.m.frames) {
		t.Fatalf("%x, not %x", all, b.m.frames)
	}
	isAs(t, b.d, b.s)
}

// isAs sees to it that a device is as it was seen.
func isAs(t *testing.T, d *disk.Disk, was *shot) {
	t.Helper()
	is := seen(d)
	if !slices.Equal(is.read, was.read) || !slices.Equal(is.lasting, was.lasting) || !slices.Equal(is.dirty, was.dirty) || is.writes != was.writes || is.syncs != was.syncs {
		t.Fatalf("the device is %x, not %x", *is, *was)
	}
}

// What tests are made of.

func frame(kind int, words ...uint64) api.Frame { return api.Frame{Kind: kind, Words: words} }

// rising tells n words, each another one, none of them 0.
func rising(n int) []uint64 {
	l := make([]uint64, n)
	for i := range l {
		l[i] = uint64(i)*0x0101010101010101 + 1
	}
	return l
}

// taking tells a frame that takes n words, the last of which isn't 0.
func taking(n int) api.Frame { return frame(n%255+1, rising(n-1)...) }

// copied tells frames that share nothing with others.
func copied(l []api.Frame) []api.Frame {
	all := slices.Clone(l)
	for i, f := range all {
		all[i].Words = slices.Clone(f.Words)
	}
	return all
}

func sameFrames(a, b []api.Frame) bool {
	return slices.EqualFunc(a, b, func(f, g api.Frame) bool { return f.Kind == g.Kind && slices.Equal(f.Words, g.Words) })
}

// wrong tells frames that may not be: of no such kind, with too many words, both.
func wrong() []api.Frame {
	return []api.Frame{
		{}, frame(0), frame(0, 1), frame(-1), frame(-1, 1), frame(256), frame(256, 1), frame(512, 3), frame(-255), frame(-256),
		frame(1<<32 + 1), frame(1<<56 + 1), frame(math.MinInt), frame(math.MaxInt),
		frame(1, rising(most+1)...), frame(255, make([]uint64, most+1)...), frame(7, rising(2*most)...), frame(0, rising(most+1)...),
	}
}

// noEpochs has epochs that there aren't; some would be right if higher bits were cut off.
func noEpochs() []int {
	return []int{-1, -2, 1 << 32, 1<<32 + 1, 1<<33 - 1, 1 << 40, -1 << 32, math.MinInt, math.MaxInt}
}

// put writes a sector that there must be.
func put(t *testing.T, d *disk.Disk, i int, s [8]uint64) {
	t.Helper()
	if e := d.Write(i, s); e != api.OK {
		t.Fatalf("sector %d: %d", i, e)
	}
}

// lay writes words over the sectors of a device, from one on, with zeros behind them in their last one, all synced.
func lay(t *testing.T, d *disk.Disk, from int, words []uint64) {
	t.Helper()
	for x := range slices.Chunk(words, 8) {
		var s [8]uint64
		copy(s[:], x)
		put(t, d, from, s)
		from++
	}
	d.Sync()
}

// full tells a device of which no word is 0, all synced.
func full(t *testing.T, n int) *disk.Disk {
	t.Helper()
	d := disk.New(n)
	lay(t, d, 0, rising(8*n))
	return d
}

// parts tells parts of devices: one sector, all of a device, some from a sector other than 0 on, the last ones.
func parts() [][3]int {
	return [][3]int{{1, 0, 1}, {2, 0, 1}, {2, 1, 1}, {2, 0, 2}, {5, 2, 3}, {5, 1, 3}, {5, 0, 5}, {9, 0, 4}, {4096, 0, 4096}, {4096, 4095, 1}, {4096, 1, 4095}}
}

func keepNone(int) bool { return false }
func keepAll(int) bool  { return true }

// keepBits tells a choice by the bits of a number.
func keepBits(x int) func(int) bool { return func(i int) bool { return x>>i&1 == 1 } }

// P8.1: Open.

func TestOpenOfANewDevice(t *testing.T) {
	for _, c := range parts() {
		d := disk.New(c[0])
		b := opened(t, d, c[1], c[2], 7)
		if len(b.l.Frames()) != 0 || b.l.Words() != 0 || b.l.Room() != 8*c[2] || b.l.Epoch() != 7 {
			t.Errorf("%d: %d frames, %d words, room for %d", c, len(b.l.Frames()), b.l.Words(), b.l.Room())
		}
		if d.Writes() != 0 || d.Syncs() != 0 {
			t.Errorf("%d: %d writes, %d syncs", c, d.Writes(), d.Syncs())
		}
	}
}

func TestOpenWithoutTheSectors(t *testing.T) {
	d := full(t, 5)
	was := seen(d)
	for _, c := range [][2]int{
		{0, 0}, {0, -1}, {2, 0}, {4, 0}, {5, 0}, {5, -1}, {0, 6}, {2, 4}, {1, 5}, {4, 2}, {5, 1}, {6, 1}, {6, -1}, {-1, 1}, {-1, 3}, {-1, 6}, {-5, 5}, {-1, 7},
		{0, 4096}, {0, math.MaxInt}, {1, math.MaxInt}, {4, math.MaxInt}, {math.MaxInt, 1}, {math.MaxInt, math.MaxInt}, {math.MaxInt - 1, 2}, {math.MaxInt - 3, 5},
		{math.MinInt, 1}, {math.MinInt, math.MaxInt}, {math.MinInt, 0}, {math.MinInt, math.MinInt}, {math.MaxInt, math.MinInt}, {0, math.MinInt}, {1, math.MinInt}, {1 << 32, 1}, {0, 1<<32 + 1},
	} {
		// The sectors are asked first, so that a wrong epoch makes no difference.
		for _, epoch := range append(noEpochs(), 0, 1, greatest) {
			if l, e := Open(d, c[0], c[1], epoch); l != nil || e != api.ErrRange {
				t.Errorf("Open(%d, %d): %d", c, epoch, e)
			}
		}
	}
	isAs(t, d, was)
}

func TestOpenOfNoDevice(t *testing.T) {
	for _, d := range []*disk.Disk{nil, {}, disk.New(0), disk.New(4097)} {
		for _, c := range [][3]int{{0, 1, 0}, {0, 0, 0}, {-1, 1, 0}, {0, 1, -1}, {0, math.MaxInt, 3}, {math.MaxInt, 1, 1 << 32}} {
			if l, e := Open(d, c[0], c[1], c[2]); l != nil || e != api.ErrRange {
				t.Errorf("Open(%d): %d", c, e)
			}
		}
	}
}

func TestOpenOfNoEpoch(t *testing.T) {
	for _, c := range parts() {
		d := full(t, c[0])
		was := seen(d)
		for _, epoch := range noEpochs() {
			if l, e := Open(d, c[1], c[2], epoch); l != nil || e != api.ErrArg {
				t.Errorf("Open(%d, %d): %d", c, epoch, e)
			}
		}
		isAs(t, d, was)
	}
}

func TestOpenOfEachPartOfADevice(t *testing.T) {
	for from := -2; from < 8; from++ {
		for sectors := -2; sectors < 8; sectors++ {
			d := full(t, 5)
			b := opened(t, d, from, sectors, 3)
			if (b != nil) != (from >= 0 && sectors >= 1 && from+sectors <= 5) {
				t.Errorf("Open(%d, %d): %t", from, sectors, b != nil)
			}
		}
	}
}

func TestOpenTellsTheFrames(t *testing.T) {
	for _, c := range parts() {
		for _, epoch := range []int{0, 1, 1 << 31, greatest} {
			for _, l := range [][]api.Frame{
				{frame(1)}, {frame(255, rising(7)...)}, {frame(1), frame(2), frame(3, 0)}, {frame(9, rising(20)...)}, {frame(1, rising(6)...), frame(1), frame(2, 3)},
				{frame(1, 0, 0, 0), frame(1, 0, 0, 0)}, {frame(7, rising(most)...), frame(8, rising(most)...)},
			} {
				words := streamOf(epoch, l)
				if len(words) > 8*c[2] {
					continue
				}
				d := disk.New(c[0])
				lay(t, d, c[1], words)
				was := seen(d)
				b := opened(t, d, c[1], c[2], epoch)
				if !sameFrames(b.l.Frames(), l) {
					t.Errorf("%d: %x", c, b.l.Frames())
				}
				isAs(t, d, was)
			}
		}
	}
}

// TestOpenTellsAsFarAsTheyStand lays each beginning of a stream: those that stand whole are told, what there is of others is cleared.
func TestOpenTellsAsFarAsTheyStand(t *testing.T) {
	l := []api.Frame{taking(3), taking(5), taking(8), taking(1), taking(10), taking(1), taking(4)}
	words := streamOf(4, l)
	for cut := range len(words) + 1 {
		d := disk.New(6)
		lay(t, d, 1, words[:cut])
		b := opened(t, d, 1, 5, 4)
		ends, n := 0, 0
		for _, f := range l {
			if ends += 1 + len(f.Words); ends <= cut {
				n++
			}
		}
		if !sameFrames(b.l.Frames(), l[:n]) {
			t.Errorf("cut at %d: %d frames, not %d", cut, len(b.l.Frames()), n)
		}
	}
}

// TestOpenLooksAtItsOwnSectorsAlone: a frame that would go on behind the part is none, and neither are those ahead of it.
func TestOpenLooksAtItsOwnSectorsAlone(t *testing.T) {
	for sectors := 1; sectors <= 4; sectors++ {
		d := disk.New(6)
		lay(t, d, 1, streamOf(2, []api.Frame{taking(6), taking(8*sectors - 5), taking(2)}))
		was := seen(d)
		b := opened(t, d, 1, sectors, 2)
		if len(b.l.Frames()) != 1 {
			t.Errorf("%d sectors: %d frames", sectors, len(b.l.Frames()))
		}
		is := seen(d)
		if is.read[0] != was.read[0] || !slices.Equal(is.read[1+sectors:], was.read[1+sectors:]) {
			t.Errorf("%d sectors: others are written", sectors)
		}
	}
}

// TestOpenOfAFrameThatIsNotTheFirst: a frame of the epoch that has another place in the stream than where it stands is none.
func TestOpenOfAFrameThatIsNotTheFirst(t *testing.T) {
	for _, n := range []int{1, 2, 1 << 31, greatest} {
		d := disk.New(3)
		lay(t, d, 0, append(wordsOf(5, n, frame(1, 2)), wordsOf(5, 0, frame(1, 2))...))
		if b := opened(t, d, 0, 3, 5); len(b.l.Frames()) != 0 {
			t.Errorf("%d: %x", n, b.l.Frames())
		}
	}
}

func TestOpenOfAnotherEpoch(t *testing.T) {
	for _, c := range []struct{ was, is int }{{0, 1}, {1, 0}, {7, 8}, {7, 6}, {0, greatest}, {greatest, 0}, {greatest, greatest - 1}, {1, 1 << 16}} {
		d := disk.New(4)
		lay(t, d, 0, streamOf(c.was, []api.Frame{taking(7), taking(9), taking(3)}))
		b := opened(t, d.Copy(), 0, 4, c.was)
		if len(b.l.Frames()) != 3 {
			t.Errorf("%d: %d frames", c.was, len(b.l.Frames()))
		}
		b = opened(t, d, 0, 4, c.is)
		if len(b.l.Frames()) != 0 || b.l.Room() != 32 || b.d.Syncs() != 2 {
			t.Errorf("%d in %d: %d frames", c.was, c.is, len(b.l.Frames()))
		}
		// What the other epoch left was cleared, and doesn't come back in it.
		if b = opened(t, d, 0, 4, c.was); len(b.l.Frames()) != 0 || b.d.Syncs() != 2 {
			t.Errorf("%d in %d: they come back", c.was, c.is)
		}
	}
}

// TestOpenOfFramesOfTwoEpochs: those of the other epoch that stand behind are none, though their place in the stream is right.
func TestOpenOfFramesOfTwoEpochs(t *testing.T) {
	d := disk.New(3)
	words := append(streamOf(1, []api.Frame{taking(8)}), wordsOf(0, 1, taking(8))...)
	lay(t, d, 0, words)
	if b := opened(t, d, 0, 3, 1); len(b.l.Frames()) != 1 || b.d.Writes() != 3 {
		t.Errorf("%x", b.l.Frames())
	}
}

// TestOpenClearsEachWord turns each word that stands behind the frames: just its sector is written, and the device synced.
func TestOpenClearsEachWord(t *testing.T) {
	for _, ahead := range []int{0, 1, 3, 7, 8, 9, 15, 16, 20, 31, 32} {
		var words []uint64
		if ahead > 0 {
			words = streamOf(9, []api.Frame{taking(ahead)})
		}
		for at := ahead; at < 32; at++ {
			d := disk.New(6)
			lay(t, d, 1, words)
			whole := seen(d)
			s := whole.read[1+at/8]
			s[at%8] = 1 << (at % 64)
			put(t, d, 1+at/8, s)
			put(t, d, 5, [8]uint64{5})
			b := opened(t, d, 1, 4, 9)
			if b.l.Words() != ahead || d.Writes() != whole.writes+3 || d.Syncs() != whole.syncs+1 || len(d.Dirty()) != 0 {
				t.Errorf("%d behind %d: %d words, %d writes", at, ahead, b.l.Words(), d.Writes()-whole.writes)
			}
			if is := seen(d); !slices.Equal(is.read[:5], whole.read[:5]) || is.read[5] != [8]uint64{5} {
				t.Errorf("%d behind %d: %x", at, ahead, is.read)
			}
		}
	}
}

// TestOpenClearsSomeSectors: of each choice of sectors that have a word behind the frames just these are written, and all of them are cleared.
func TestOpenClearsSomeSectors(t *testing.T) {
	for foul := range 1 << 4 {
		d := disk.New(8)
		lay(t, d, 2, streamOf(3, []api.Frame{taking(8), taking(3)}))
		whole := seen(d)
		for i := range 4 {
			if s := whole.read[3+i]; keepBits(foul)(i) {
				s[7] = 8
				put(t, d, 3+i, s)
			}
		}
		d.Sync()
		was := seen(d)
		b := opened(t, d, 2, 5, 3)
		syncs := int64(0)
		if foul != 0 {
			syncs = 1
		}
		if len(b.l.Frames()) != 2 || d.Writes()-was.writes != int64(bits.OnesCount(uint(foul))) || d.Syncs()-was.syncs != syncs {
			t.Errorf("%b: %d frames, %d writes, %d syncs", foul, len(b.l.Frames()), d.Writes()-was.writes, d.Syncs()-was.syncs)
		}
		if is := seen(d); !slices.Equal(is.lasting, whole.lasting) {
			t.Errorf("%b: %x", foul, is.lasting)
		}
	}
}

// TestOpenClearsWordsThatAreNoStream: of a device that is full of them no frame is told, and all sectors of the part are written.
func TestOpenClearsWordsThatAreNoStream(t *testing.T) {
	for _, c := range parts() {
		d := full(t, c[0])
		was := d.Writes()
		b := opened(t, d, c[1], c[2], 0)
		if len(b.l.Frames()) != 0 || d.Writes()-was != int64(c[2]) || d.Syncs() != 2 {
			t.Errorf("%d: %d frames, %d writes, %d syncs", c, len(b.l.Frames()), d.Writes()-was, d.Syncs())
		}
		// There is nothing to clear any more.
		opened(t, d, c[1], c[2], 0)
		if d.Writes()-was != int64(c[2]) || d.Syncs() != 2 {
			t.Errorf("%d: cleared twice", c)
		}
	}
}

// TestOpenSyncsJustIfItCleared: what was written, and not synced, stays so, if there is nothing behind the frames.
func TestOpenSyncsJustIfItCleared(t *testing.T) {
	d := disk.New(4)
	b := opened(t, d, 0, 3, 1)
	b.append(t, taking(10))
	put(t, d, 3, [8]uint64{1})
	b = opened(t, d, 0, 3, 1)
	if !slices.Equal(d.Dirty(), []int{0, 1, 3}) || d.Syncs() != 0 || len(b.l.Frames()) != 1 {
		t.Errorf("%d, %d syncs", d.Dirty(), d.Syncs())
	}
	put(t, d, 2, [8]uint64{0, 0, 1})
	b = opened(t, d, 0, 3, 1)
	if len(d.Dirty()) != 0 || d.Syncs() != 1 || len(b.l.Frames()) != 1 {
		t.Errorf("%d, %d syncs", d.Dirty(), d.Syncs())
	}
}

// TestOpenReadsWhatWasWrittenLast: and not what lasts.
func TestOpenReadsWhatWasWrittenLast(t *testing.T) {
	d := disk.New(2)
	lay(t, d, 0, streamOf(0, []api.Frame{frame(1, 1)}))
	put(t, d, 0, [8]uint64{wordsOf(0, 0, frame(2, 9))[0], 9})
	if b := opened(t, d, 0, 2, 0); !sameFrames(b.l.Frames(), []api.Frame{frame(2, 9)}) || d.Syncs() != 1 {
		t.Errorf("%x", b.l.Frames())
	}
}

func TestOpenOfAnyWordsAgainstTheModel(t *testing.T) {
	rnd := rand.New(rand.NewSource(2))
	for range 3000 {
		d := disk.New(1 + rnd.Intn(8))
		epoch := rnd.Intn(3)
		var l []api.Frame
		for range rnd.Intn(6) {
			l = append(l, taking(1+rnd.Intn(12)))
		}
		words := streamOf(epoch, l)
		from := rnd.Intn(d.Len())
		lay(t, d, from, words[:min(len(words), 8*(d.Len()-from))])
		for range rnd.Intn(3) {
			i := rnd.Intn(d.Len())
			s, _ := d.Read(i)
			s[rnd.Intn(8)] ^= 1 << rnd.Intn(64)
			put(t, d, i, s)
		}
		opened(t, d, from, 1+rnd.Intn(d.Len()-from), rnd.Intn(3))
	}
}

// P8.2: Append, Frames, Words and Room.

func TestTheExampleOfTheDocument(t *testing.T) {
	b := opened(t, disk.New(1), 0, 1, 0)
	if e := b.append(t, frame(1, 1, 2, 3, 4, 5, 6, 7)); e != api.OK || b.l.Words() != 8 || b.l.Room() != 0 {
		t.Errorf("%d, %d words", e, b.l.Words())
	}
	if e := b.append(t, frame(1)); e != api.ErrFull {
		t.Errorf("%d", e)
	}
}

// TestAppendInNumbers holds what is written against words that were put down apart from the model, but for the marks.
func TestAppendInNumbers(t *testing.T) {
	d := disk.New(4)
	l, _ := Open(d, 1, 3, 6)
	m, n := markOf(1, 5, 6, 0, 11, 12, 13, 14, 15), markOf(200, 4, 6, 1, 21, 22, 23, 24)
	for _, f := range []api.Frame{frame(1, 11, 12, 13, 14, 15), frame(200, 21, 22, 23, 24)} {
		if e := l.Append(f); e != api.OK {
			t.Fatal(e)
		}
	}
	want := [][8]uint64{{}, {m, 11, 12, 13, 14, 15, n, 21}, {22, 23, 24}, {}}
	if s := seen(d); !slices.Equal(s.read, want) || !slices.Equal(s.lasting, make([][8]uint64, 4)) || s.writes != 3 || s.syncs != 0 {
		t.Errorf("%x", s)
	}
	if l.Words() != 11 || l.Room() != 13 {
		t.Errorf("%d words, room for %d", l.Words(), l.Room())
	}
}

func TestAppendToEachPart(t *testing.T) {
	for _, c := range parts() {
		b := opened(t, full(t, c[0]), c[1], c[2], 1)
		for _, n := range []int{1, 3, 4, 1, 9} {
			b.append(t, taking(n))
		}
		b.sync(t)
		b.append(t, taking(2))
	}
}

// TestAppendOfTwo: whichever words of sectors they begin and end with, of one and of several sectors, synced between or not.
func TestAppendOfTwo(t *testing.T) {
	for first := 1; first <= 25; first++ {
		for second := 1; second <= 25; second++ {
			b := opened(t, disk.New(9), 1, 7, 2)
			b.append(t, taking(first))
			if second%2 == 0 {
				b.sync(t)
			}
			was := b.d.Writes()
			b.append(t, taking(second))
			if n := (first+second-1)/8 - first/8 + 1; b.d.Writes()-was != int64(n) {
				t.Errorf("%d words behind %d: %d writes, not %d", second, first, b.d.Writes()-was, n)
			}
		}
	}
}

// TestAppendWritesOverWhatIsThere: a sector is written as a whole, with zeros behind, whatever came to be in it since the log was opened.
func TestAppendWritesOverWhatIsThere(t *testing.T) {
	b := opened(t, disk.New(4), 0, 4, 0)
	b.append(t, taking(5))
	for i := range 4 {
		x := [8]uint64{1, 2, 3, 4, 5, 6, 7, 8}
		put(t, b.d, i, x)
		b.s.write(i, x)
	}
	b.same(t)
	b.append(t, taking(6))
	if s := seen(b.d); s.read[1] == [8]uint64{1, 2, 3, 4, 5, 6, 7, 8} || s.read[1][3] != 0 || s.read[2] != [8]uint64{1, 2, 3, 4, 5, 6, 7, 8} {
		t.Errorf("%x", s.read)
	}
}

func TestAppendOfOneThatMayNotBe(t *testing.T) {
	for _, sectors := range []int{1, 2, 600} {
		b := opened(t, disk.New(sectors), 0, sectors, 3)
		for range 3 {
			for _, f := range wrong() {
				if e := b.append(t, f); e != api.ErrArg {
					t.Errorf("%d sectors: the kind %d with %d words: %d", sectors, f.Kind, len(f.Words), e)
				}
			}
			b.append(t, taking(7))
		}
	}
}

// TestAppendToAFullLog: that a frame may not be is told ahead of that there is no room.
func TestAppendToAFullLog(t *testing.T) {
	b := opened(t, disk.New(2), 1, 1, 0)
	b.append(t, taking(8))
	for _, f := range wrong() {
		if e := b.append(t, f); e != api.ErrArg {
			t.Errorf("the kind %d with %d words: %d", f.Kind, len(f.Words), e)
		}
	}
	for _, n := range []int{1, 2, 8, 9, most, most + 1} {
		if e := b.append(t, taking(n)); e != api.ErrFull {
			t.Errorf("%d words: %d", n, e)
		}
	}
}

// TestAppendOfJustAsManyAsThereIsRoomFor: and of one more, behind each number of words.
func TestAppendOfJustAsManyAsThereIsRoomFor(t *testing.T) {
	for _, sectors := range []int{1, 2, 3} {
		for ahead := range 8 * sectors {
			b := opened(t, disk.New(4), 1, sectors, 1)
			if ahead > 0 {
				b.append(t, taking(ahead))
			}
			room := 8*sectors - ahead
			for _, more := range []int{1, 2, 8} {
				if e := b.append(t, taking(room+more)); e != api.ErrFull {
					t.Errorf("%d behind %d of %d sectors: %d", room+more, ahead, sectors, e)
				}
			}
			if e := b.append(t, taking(room)); e != api.OK || b.l.Room() != 0 {
				t.Errorf("%d behind %d of %d sectors: %d", room, ahead, sectors, e)
			}
			if e := b.append(t, frame(1)); e != api.ErrFull {
				t.Errorf("one more: %d", e)
			}
		}
	}
}

// TestARefusedOneTakesNoPlace: the next one is the next of the stream, and is there when the log is opened again.
func TestARefusedOneTakesNoPlace(t *testing.T) {
	b := opened(t, disk.New(2), 0, 2, 0)
	for _, f := range []api.Frame{frame(1, 1), {}, frame(2, rising(20)...), frame(3, 3), frame(256), frame(4, rising(11)...), frame(5)} {
		b.append(t, f)
	}
	if b = opened(t, b.d, 0, 2, 0); !sameFrames(b.l.Frames(), []api.Frame{frame(1, 1), frame(3, 3), frame(4, rising(11)...)}) {
		t.Errorf("%x", b.l.Frames())
	}
}

func TestAppendOfTheGreatest(t *testing.T) {
	d := disk.New(4096)
	l, _ := Open(d, 0, 4096, greatest)
	n := 0
	for ; l.Room() > most; n++ {
		if e := l.Append(frame(1+n, rising(most)...)); e != api.OK {
			t.Fatal(e)
		}
	}
	if n != 16 || l.Words() != 16*2001 || l.Room() != 752 {
		t.Errorf("%d frames, %d words, room for %d", n, l.Words(), l.Room())
	}
	if e := l.Append(frame(1, rising(752)...)); e != api.ErrFull {
		t.Errorf("one more than there is room for: %d", e)
	}
	if e := l.Append(frame(99, rising(751)...)); e != api.OK || l.Room() != 0 {
		t.Errorf("as many as there is room for: %d", e)
	}
	if e := l.Append(frame(1)); e != api.ErrFull {
		t.Errorf("%d", e)
	}
	l.Sync()
	d.Crash(keepNone)
	l, _ = Open(d, 0, 4096, greatest)
	if all := l.Frames(); len(all) != 17 || all[15].Kind != 16 || all[16].Kind != 99 || !slices.Equal(all[16].Words, rising(751)) || l.Room() != 0 {
		t.Errorf("%d frames", len(all))
	}
}

// TestManyFrames: as many as there is room for, of one word each; each is one of the stream on its own.
func TestManyFrames(t *testing.T) {
	d := disk.New(300)
	l, _ := Open(d, 0, 300, 1)
	for i := range 2400 {
		if e := l.Append(frame(i%255 + 1)); e != api.OK || l.Words() != i+1 || l.Room() != 2399-i {
			t.Fatalf("%d: %d, %d words", i, e, l.Words())
		}
	}
	if e := l.Append(frame(1)); e != api.ErrFull || d.Writes() != 2400 {
		t.Errorf("%d, %d writes", e, d.Writes())
	}
	if l, _ = Open(d, 0, 300, 1); len(l.Frames()) != 2400 || l.Frames()[2399].Kind != 2399%255+1 {
		t.Errorf("%d frames", len(l.Frames()))
	}
}

func TestEachKind(t *testing.T) {
	b := opened(t, disk.New(64), 0, 64, 0)
	for kind := 1; kind < 256; kind++ {
		if e := b.append(t, frame(kind, uint64(kind))); e != api.OK {
			t.Errorf("the kind %d: %d", kind, e)
		}
	}
	opened(t, b.d, 0, 64, 0)
}

// TestFramesAreNotKept: neither those that are handed in, nor those that are told.
func TestFramesAreNotKept(t *testing.T) {
	b := opened(t, disk.New(3), 0, 3, 0)
	for _, n := range []int{3, 8, 1} {
		f := frame(n, append(make([]uint64, 0, 20), rising(n)...)...)
		b.append(t, f)
		clear(f.Words)
		b.same(t)
	}
	all, other := b.l.Frames(), b.l.Frames()
	for i := range all {
		all[i].Kind = 77
		for k := range all[i].Words {
			all[i].Words[k] = 77
		}
		all[i].Words = append(all[i].Words, 77, 77)
	}
	if !sameFrames(other, b.m.frames) {
		t.Errorf("an answer shares with another one: %x", other)
	}
	b.same(t)
	b.append(t, frame(5, 5))
	opened(t, b.d, 0, 3, 0)
}

// TestFramesShareNone: what is put into the spare room of one of the frames doesn't come to be another one's.
func TestFramesShareNone(t *testing.T) {
	b := opened(t, disk.New(3), 0, 3, 0)
	for n := range 4 {
		b.append(t, frame(1+n, rising(n)...))
	}
	all := b.l.Frames()
	for i := range all {
		x := all[i].Words[:cap(all[i].Words)]
		for k := len(all[i].Words); k < len(x); k++ {
			x[k] = 99
		}
	}
	if !sameFrames(all, b.m.frames) {
		t.Errorf("%x", all)
	}
	b.same(t)
}

func TestOfNil(t *testing.T) {
	var l *Log
	for _, f := range append(wrong(), frame(1), frame(255, rising(most)...)) {
		if e := l.Append(f); e != api.ErrArg {
			t.Errorf("Append of the kind %d: %d", f.Kind, e)
		}
	}
	if l.Sync(); len(l.Frames()) != 0 || l.Words() != 0 || l.Room() != 0 || l.Epoch() != 0 {
		t.Errorf("%x, %d, %d, %d", l.Frames(), l.Words(), l.Room(), l.Epoch())
	}
}

// P8.3: Sync, Cost and Epoch.

func TestSync(t *testing.T) {
	d := disk.New(5)
	b := opened(t, d, 1, 3, 0)
	for i, n := range []int{1, 7, 8, 3} {
		b.append(t, taking(n))
		x := [8]uint64{uint64(i)}
		put(t, d, 4, x)
		b.s.write(4, x)
		b.sync(t)
		if len(d.Dirty()) != 0 || d.Syncs() != int64(i)+1 {
			t.Errorf("%d: %d, %d syncs", i, d.Dirty(), d.Syncs())
		}
	}
	// A sync is one, too, if there is nothing to make last.
	b.sync(t)
	if d.Syncs() != 5 {
		t.Errorf("%d syncs", d.Syncs())
	}
}

func TestCost(t *testing.T) {
	for kind := -300; kind <= 600; kind++ {
		for _, n := range []int{0, 1, 2, 7, 8, 1999, 2000, 2001, 2002, 4001} {
			want := 0
			if kind >= 1 && kind <= 255 && n <= 2000 {
				want = n + 1
			}
			if c := Cost(api.Frame{Kind: kind, Words: make([]uint64, n, n+9)}); c != want {
				t.Errorf("the kind %d with %d words: %d", kind, n, c)
			}
		}
	}
	for _, f := range wrong() {
		if c := Cost(f); c != 0 {
			t.Errorf("the kind %d with %d words: %d", f.Kind, len(f.Words), c)
		}
	}
}

// TestCostIsWhatAppendTakes holds it against what the log tells.
func TestCostIsWhatAppendTakes(t *testing.T) {
	l, _ := Open(disk.New(1000), 0, 1000, 0)
	for _, n := range []int{0, 1, 5, 6, 7, 8, 9, 300, most - 1, most} {
		f, was, room := frame(3, rising(n)...), l.Words(), l.Room()
		if e := l.Append(f); e != api.OK || l.Words()-was != Cost(f) || room-l.Room() != Cost(f) {
			t.Errorf("%d words: %d, %d", n, Cost(f), l.Words()-was)
		}
	}
}

func TestEpoch(t *testing.T) {
	for _, epoch := range []int{0, 1, 2, 255, 1 << 16, 1<<24 + 1, 1<<31 - 1, 1 << 31, greatest - 1, greatest} {
		b := opened(t, disk.New(2), 0, 2, epoch)
		b.append(t, frame(1, 2, 3))
		b.append(t, frame(2))
		b.sync(t)
		if b = opened(t, b.d, 0, 2, epoch); b.l.Epoch() != epoch || len(b.l.Frames()) != 2 {
			t.Errorf("%d: %d, %d frames", epoch, b.l.Epoch(), len(b.l.Frames()))
		}
	}
}

// P8.4: what is there behind a crash.

func TestOpenedAgainBehindASync(t *testing.T) {
	for _, c := range parts() {
		b := opened(t, full(t, c[0]), c[1], c[2], 5)
		for _, n := range []int{1, 3, 4, 8, 2, 17} {
			b.append(t, taking(n))
		}
		b.sync(t)
		want := b.l.Frames()
		for _, keep := range []func(int) bool{keepNone, keepAll} {
			b.d.Crash(keep)
			if b = opened(t, b.d, c[1], c[2], 5); !sameFrames(b.l.Frames(), want) {
				t.Errorf("%d: %d frames, not %d", c, len(b.l.Frames()), len(want))
			}
		}
	}
}

func TestOpenedAgainWithoutASync(t *testing.T) {
	b := opened(t, disk.New(3), 0, 3, 5)
	b.append(t, taking(9))
	b.append(t, taking(3))
	if b = opened(t, b.d, 0, 3, 5); len(b.l.Frames()) != 2 || b.d.Syncs() != 0 {
		t.Errorf("%d frames, %d syncs", len(b.l.Frames()), b.d.Syncs())
	}
	b.append(t, taking(4))
	b.d.Crash(keepNone)
	if b = opened(t, b.d, 0, 3, 5); len(b.l.Frames()) != 0 {
		t.Errorf("%d frames", len(b.l.Frames()))
	}
}

// TestACrashWithWhateverLasts: of frames that stand behind synced ones those are told whose words, and those of all ahead of them, last.
func TestACrashWithWhateverLasts(t *testing.T) {
	for _, c := range []struct{ synced, lost []int }{
		{nil, []int{8, 8, 8}}, {nil, []int{1, 30, 1}}, {[]int{8}, []int{8, 8, 8}}, {[]int{3}, []int{5, 8, 8}}, {[]int{3}, []int{4, 2, 20}}, {[]int{7, 6}, []int{1, 1, 9, 16}},
	} {
		for kept := range 1 << 5 {
			b := opened(t, disk.New(5), 0, 5, 1)
			for _, n := range c.synced {
				b.append(t, taking(n))
			}
			b.sync(t)
			for _, n := range c.lost {
				b.append(t, taking(n))
			}
			all, want, ends := b.l.Frames(), 0, 0
			for i, f := range all {
				begins := ends
				ends += 1 + len(f.Words)
				lasts := true
				for k := begins / 8; k <= (ends-1)/8; k++ {
					lasts = lasts && keepBits(kept)(k)
				}
				if i >= len(c.synced) && !lasts {
					break
				}
				want++
			}
			b.d.Crash(keepBits(kept))
			if b = opened(t, b.d, 0, 5, 1); !sameFrames(b.l.Frames(), all[:want]) {
				t.Errorf("%d, of which %b lasts: %d frames, not %d", c, kept, len(b.l.Frames()), want)
			}
		}
	}
}

// TestWhatWasLostNeverComesBack: the second frame lasts, the first one doesn't; the first one is appended anew, and the second one isn't there, whatever a second crash takes.
func TestWhatWasLostNeverComesBack(t *testing.T) {
	for _, kept := range []int{0, 1, 2, 3} {
		b := opened(t, disk.New(4), 0, 4, 0)
		b.append(t, taking(8))
		b.append(t, taking(8))
		b.d.Crash(keepBits(2))
		b = opened(t, b.d, 0, 4, 0)
		if len(b.l.Frames()) != 0 || b.d.Lasting(1) != [8]uint64{} {
			t.Errorf("%x", b.l.Frames())
		}
		b.append(t, taking(8))
		b.d.Crash(keepBits(kept))
		if b = opened(t, b.d, 0, 4, 0); len(b.l.Frames()) != kept&1 {
			t.Errorf("%b: %d frames", kept, len(b.l.Frames()))
		}
		if b.append(t, taking(8)); len(b.l.Frames()) != 1+kept&1 {
			t.Errorf("%b: %d frames", kept, len(b.l.Frames()))
		}
	}
}

// TestWhatOtherEpochsLeftNeverComesBack: a log that begins anew over its own sectors, and goes back to the epoch.
func TestWhatOtherEpochsLeftNeverComesBack(t *testing.T) {
	b := opened(t, disk.New(3), 0, 3, 7)
	b.append(t, taking(8))
	b.append(t, taking(8))
	b.sync(t)
	b = opened(t, b.d, 0, 3, 8)
	b.d.Crash(keepNone)
	b = opened(t, b.d, 0, 3, 7)
	b.append(t, taking(8))
	b.sync(t)
	if b = opened(t, b.d, 0, 3, 7); len(b.l.Frames()) != 1 {
		t.Errorf("%d frames", len(b.l.Frames()))
	}
}

// run does to a log and its model what chance says, with crashes of which each sector lasts or doesn't.
func run(t *testing.T, rnd *rand.Rand) {
	t.Helper()
	n := 1 + rnd.Intn(9)
	from := rnd.Intn(n)
	sectors, epoch := 1+rnd.Intn(n-from), rnd.Intn(2)*greatest
	b := opened(t, full(t, n), from, sectors, epoch)
	synced, name := 0, uint64(0)
	for range 60 {
		switch rnd.Intn(12) {
		case 0, 1:
			b.sync(t)
			synced = len(b.m.frames)
		case 2:
			b = opened(t, b.d, from, sectors, epoch)
		case 3, 4, 5:
			all := copied(b.m.frames)
			kept := rnd.Intn(1 << n)
			b.s.crash(keepBits(kept))
			b.d.Crash(keepBits(kept))
			isAs(t, b.d, b.s)
			b = opened(t, b.d, from, sectors, epoch)
			is := b.l.Frames()
			if len(is) < synced || len(is) > len(all) || !sameFrames(is, all[:len(is)]) {
				t.Fatalf("%d frames, of which %d were synced; behind the crash %x", len(all), synced, is)
			}
			synced = len(is)
		case 6:
			b.append(t, wrong()[rnd.Intn(len(wrong()))])
		default:
			// Each frame has a word that no other one has, so that one that was lost is told apart from one that was appended anew.
			name++
			b.append(t, frame(1+rnd.Intn(255), append(make([]uint64, rnd.Intn(3)*rnd.Intn(9)), name)...))
		}
	}
}

func TestAnyCrashesAgainstTheModel(t *testing.T) {
	rnd := rand.New(rand.NewSource(5))
	for range 400 {
		run(t, rnd)
	}
}

// The rules that hold everywhere.

// TestTwoLogsOfOneDevice: logs of parts that share no sector don't disturb each other.
func TestTwoLogsOfOneDevice(t *testing.T) {
	d := disk.New(6)
	a, _ := Open(d, 0, 3, 1)
	b, _ := Open(d, 3, 3, 1)
	for i := range 8 {
		a.Append(frame(1, uint64(i), 5))
		b.Append(frame(2, 9, uint64(i), 7))
	}
	a.Sync()
	d.Crash(keepNone)
	for _, c := range []struct {
		l    *Log
		from int
	}{{a, 0}, {b, 3}} {
		m, e := Open(d, c.from, 3, 1)
		if e != api.OK || !sameFrames(m.Frames(), c.l.Frames()) || len(m.Frames()) == 0 {
			t.Errorf("%x, %x", m.Frames(), c.l.Frames())
		}
	}
}

// TestCallsThatTellChangeNothing: neither the log nor its device.
func TestCallsThatTellChangeNothing(t *testing.T) {
	b := opened(t, disk.New(3), 1, 2, 4)
	b.append(t, taking(5))
	b.sync(t)
	b.append(t, taking(6))
	for range 3 {
		Cost(taking(4))
		b.l.Epoch()
		b.l.Words()
		b.l.Room()
		b.same(t)
	}
}

// TestSameDoneSameAnswered: two logs to which the same was done tell the same, whatever else is done between.
func TestSameDoneSameAnswered(t *testing.T) {
	rnd := rand.New(rand.NewSource(8))
	one, other := disk.New(12), disk.New(12)
	a, _ := Open(one, 2, 9, 3)
	b, _ := Open(other, 2, 9, 3)
	for range 40 {
		f := taking(1 + rnd.Intn(9))
		e := a.Append(f)
		// The spare room of what is handed in is another one.
		f.Words = append(make([]uint64, 0, 50), f.Words...)
		if g := b.Append(f); g != e {
			t.Fatalf("%d and %d", e, g)
		}
		if !sameFrames(a.Frames(), b.Frames()) || a.Words() != b.Words() || a.Room() != b.Room() {
			t.Fatalf("%x and %x", a.Frames(), b.Frames())
		}
		isAs(t, one, seen(other))
	}
}
