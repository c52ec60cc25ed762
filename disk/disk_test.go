package disk

import (
	"math"
	"math/rand"
	"slices"
	"testing"

	"gimmal/api"
)

// zeros is what a sector has at first.
var zeros [8]uint64

// filled tells a sector of which each word hangs on x; never zeros alone.
func filled(x uint64) [8]uint64 {
	return [8]uint64{x, x + 1, x + 2, x + 3, x << 8, x << 16, x << 32, ^x}
}

// made tells a device that there must be.
func made(t *testing.T, n int) *Disk {
	t.Helper()
	d := New(n)
	if d == nil {
		t.Fatalf("no device of %d sectors", n)
	}
	return d
}

// write writes a sector that there must be.
func write(t *testing.T, d *Disk, i int, s [8]uint64) {
	t.Helper()
	if e := d.Write(i, s); e != api.OK {
		t.Fatalf("Write(%d): %d", i, e)
	}
}

// reads sees to it that a sector is read as it must be.
func reads(t *testing.T, d *Disk, i int, want [8]uint64) {
	t.Helper()
	if s, e := d.Read(i); s != want || e != api.OK {
		t.Errorf("Read(%d): %x, %d, not %x", i, s, e, want)
	}
}

// lasts sees to it that a sector has what must last.
func lasts(t *testing.T, d *Disk, i int, want [8]uint64) {
	t.Helper()
	if s := d.Lasting(i); s != want {
		t.Errorf("Lasting(%d): %x, not %x", i, s, want)
	}
}

// dirty sees to it that a device has those sectors that were written since the last sync.
func dirty(t *testing.T, d *Disk, want ...int) {
	t.Helper()
	if l := d.Dirty(); !slices.Equal(l, want) {
		t.Errorf("Dirty: %d, not %d", l, want)
	}
}

// counts sees to it that there were so many writes and syncs.
func counts(t *testing.T, d *Disk, writes, syncs int64) {
	t.Helper()
	if d.Writes() != writes || d.Syncs() != syncs {
		t.Errorf("%d writes, %d syncs, not %d and %d", d.Writes(), d.Syncs(), writes, syncs)
	}
}

func none(int) bool { return false }
func all(int) bool  { return true }

// only tells a choice of these sectors.
func only(l ...int) func(i int) bool { return func(i int) bool { return slices.Contains(l, i) } }

// without tells numbers of sectors that a device of n doesn't have; some would be right if higher bits were cut off.
func without(n int) []int {
	return []int{n, n + 1, -1, -n, -n - 1, 4096, 4097, 1 << 32, 1<<32 + n - 1, -1 << 32, math.MaxInt, math.MinInt}
}

// P3.1: New and Len.

func TestNew(t *testing.T) {
	for _, n := range []int{1, 2, 3, 8, 100, 4095, 4096} {
		d := made(t, n)
		if d.Len() != n {
			t.Errorf("Len of %d sectors: %d", n, d.Len())
		}
		for i := range n {
			reads(t, d, i, zeros)
			lasts(t, d, i, zeros)
		}
		dirty(t, d)
		counts(t, d, 0, 0)
	}
}

func TestNewOfNoSuchNumber(t *testing.T) {
	for _, n := range []int{0, -1, -2, -4096, 4097, 4098, 8192, 1 << 16, 1 << 32, 1<<32 + 1, 1<<32 + 4096, -1<<32 + 1, math.MaxInt, math.MinInt, math.MinInt + 1} {
		if d := New(n); d != nil {
			t.Errorf("a device of %d sectors", n)
		}
	}
}

func TestLenStays(t *testing.T) {
	d := made(t, 5)
	for i, do := range []func(){
		func() { d.Write(4, filled(1)) }, func() { d.Write(5, filled(1)) }, d.Sync, func() { d.Write(0, filled(1)) }, func() { d.Crash(none) }, func() { d.Crash(all) },
	} {
		if do(); d.Len() != 5 {
			t.Errorf("behind %d: %d sectors", i, d.Len())
		}
	}
}

func TestDevicesAreApart(t *testing.T) {
	d, e := made(t, 2), made(t, 2)
	write(t, d, 1, filled(1))
	reads(t, e, 1, zeros)
	dirty(t, e)
	counts(t, e, 0, 0)
	d.Sync()
	lasts(t, e, 1, zeros)
	counts(t, e, 0, 0)
}

// P3.2: Write, Read and Sync.

func TestReadTellsWhatWasWrittenLast(t *testing.T) {
	for _, n := range []int{1, 2, 7, 4096} {
		d := made(t, n)
		for _, i := range []int{0, n / 2, n - 1} {
			write(t, d, i, filled(7))
			reads(t, d, i, filled(7))
			write(t, d, i, filled(uint64(i)))
			reads(t, d, i, filled(uint64(i)))
			lasts(t, d, i, zeros)
		}
		d.Sync()
		for _, i := range []int{0, n / 2, n - 1} {
			reads(t, d, i, filled(uint64(i)))
			lasts(t, d, i, filled(uint64(i)))
		}
	}
}

func TestWriteLeavesOtherSectors(t *testing.T) {
	d := made(t, 9)
	for i := range 9 {
		write(t, d, i, filled(uint64(i)))
		for j := range 9 {
			if j <= i {
				reads(t, d, j, filled(uint64(j)))
			} else {
				reads(t, d, j, zeros)
			}
		}
	}
	write(t, d, 4, filled(50))
	for i := range 9 {
		if i != 4 {
			reads(t, d, i, filled(uint64(i)))
		}
	}
}

func TestEachWordOfASector(t *testing.T) {
	d := made(t, 2)
	for i := range 8 {
		for _, x := range []uint64{1, 1 << 63, math.MaxUint64} {
			var s [8]uint64
			s[i] = x
			write(t, d, 1, s)
			reads(t, d, 1, s)
			d.Crash(all)
			reads(t, d, 1, s)
			lasts(t, d, 1, s)
		}
	}
}

func TestZerosAreWrittenToo(t *testing.T) {
	d := made(t, 1)
	write(t, d, 0, filled(1))
	d.Sync()
	write(t, d, 0, zeros)
	reads(t, d, 0, zeros)
	lasts(t, d, 0, filled(1))
	dirty(t, d, 0)
	d.Sync()
	lasts(t, d, 0, zeros)
}

func TestWithoutTheSector(t *testing.T) {
	for _, n := range []int{1, 2, 5, 4096} {
		d := made(t, n)
		write(t, d, 0, filled(1))
		write(t, d, n-1, filled(2))
		d.Sync()
		for _, i := range without(n) {
			if e := d.Write(i, filled(9)); e != api.ErrRange {
				t.Errorf("Write(%d) of %d sectors: %d", i, n, e)
			}
			if s, e := d.Read(i); s != zeros || e != api.ErrRange {
				t.Errorf("Read(%d) of %d sectors: %x, %d", i, n, s, e)
			}
			lasts(t, d, i, zeros)
		}
		dirty(t, d)
		counts(t, d, 2, 1)
		reads(t, d, n-1, filled(2))
		if n > 1 {
			reads(t, d, 0, filled(1))
		}
	}
}

func TestARefusedWriteChangesNothing(t *testing.T) {
	for _, end := range []func(d *Disk){(*Disk).Sync, func(d *Disk) { d.Crash(all) }} {
		d := made(t, 3)
		write(t, d, 1, filled(1))
		for _, i := range without(3) {
			d.Write(i, filled(9))
			dirty(t, d, 1)
			counts(t, d, 1, 0)
		}
		end(d)
		for i, want := range [][8]uint64{zeros, filled(1), zeros} {
			reads(t, d, i, want)
			lasts(t, d, i, want)
		}
	}
}

func TestSync(t *testing.T) {
	d := made(t, 4)
	write(t, d, 3, filled(3))
	write(t, d, 1, filled(1))
	d.Sync()
	dirty(t, d)
	for i, want := range [][8]uint64{zeros, filled(1), zeros, filled(3)} {
		reads(t, d, i, want)
		lasts(t, d, i, want)
	}
	write(t, d, 1, filled(2))
	lasts(t, d, 1, filled(1))
	d.Sync()
	lasts(t, d, 1, filled(2))
	lasts(t, d, 3, filled(3))
	d.Crash(none)
	reads(t, d, 1, filled(2))
	reads(t, d, 3, filled(3))
}

// P3.3: Crash, Dirty and Lasting.

func TestCrashThatKeepsNothing(t *testing.T) {
	d := made(t, 3)
	write(t, d, 0, filled(1))
	d.Crash(none)
	reads(t, d, 0, zeros)
	write(t, d, 0, filled(1))
	d.Sync()
	write(t, d, 0, filled(2))
	write(t, d, 2, filled(3))
	lasts(t, d, 0, filled(1))
	d.Crash(none)
	for i, want := range [][8]uint64{filled(1), zeros, zeros} {
		reads(t, d, i, want)
		lasts(t, d, i, want)
	}
	dirty(t, d)
}

func TestCrashThatKeepsSome(t *testing.T) {
	for kept := range 1 << 4 {
		d := made(t, 4)
		for i := range 4 {
			write(t, d, i, filled(uint64(i)))
		}
		d.Sync()
		for i := range 4 {
			write(t, d, i, filled(uint64(i)+10))
		}
		d.Crash(func(i int) bool { return kept>>i&1 == 1 })
		dirty(t, d)
		for i := range 4 {
			want := filled(uint64(i + kept>>i&1*10))
			reads(t, d, i, want)
			lasts(t, d, i, want)
		}
	}
}

func TestCrashThatKeepsAll(t *testing.T) {
	d := made(t, 3)
	write(t, d, 2, filled(1))
	write(t, d, 0, filled(2))
	d.Crash(all)
	dirty(t, d)
	for i, want := range [][8]uint64{filled(2), zeros, filled(1)} {
		reads(t, d, i, want)
		lasts(t, d, i, want)
	}
}

func TestOfASectorThatIsWrittenTwice(t *testing.T) {
	d := made(t, 2)
	write(t, d, 1, filled(1))
	write(t, d, 1, filled(2))
	dirty(t, d, 1)
	lasts(t, d, 1, zeros)
	c := d.Copy()
	d.Crash(all)
	reads(t, d, 1, filled(2))
	c.Crash(none)
	reads(t, c, 1, zeros)
}

func TestOfASectorThatIsWrittenWithWhatItHas(t *testing.T) {
	d := made(t, 2)
	write(t, d, 0, zeros)
	dirty(t, d, 0)
	write(t, d, 1, filled(1))
	d.Sync()
	write(t, d, 1, filled(1))
	dirty(t, d, 1)
	counts(t, d, 3, 1)
	write(t, d, 0, filled(5))
	write(t, d, 0, zeros)
	dirty(t, d, 0, 1)
	var asked []int
	d.Crash(func(i int) bool {
		asked = append(asked, i)
		return false
	})
	if !slices.Equal(asked, []int{0, 1}) {
		t.Error("asked of", asked)
	}
	reads(t, d, 0, zeros)
	reads(t, d, 1, filled(1))
}

func TestWhatACrashKeptLasts(t *testing.T) {
	d := made(t, 2)
	write(t, d, 0, filled(1))
	d.Crash(all)
	counts(t, d, 1, 0)
	write(t, d, 0, filled(2))
	lasts(t, d, 0, filled(1))
	d.Crash(none)
	reads(t, d, 0, filled(1))
	d.Crash(none)
	reads(t, d, 0, filled(1))
}

func TestKeepIsAskedByRisingNumbers(t *testing.T) {
	rnd := rand.New(rand.NewSource(1))
	for range 50 {
		d := made(t, 4096)
		want := rnd.Perm(4096)[:rnd.Intn(200)]
		if rnd.Intn(2) == 0 {
			want = append(want, 0, 4095)
		}
		for _, i := range want {
			write(t, d, i, filled(uint64(rnd.Intn(2))))
		}
		slices.Sort(want)
		want = slices.Compact(want)
		var asked []int
		dirty(t, d, want...)
		d.Crash(func(i int) bool {
			asked = append(asked, i)
			return rnd.Intn(2) == 0
		})
		if !slices.Equal(asked, want) {
			t.Errorf("asked of %d, not %d", asked, want)
		}
	}
}

func TestKeepIsAskedOfNoOthers(t *testing.T) {
	d := made(t, 3)
	never := func(i int) bool {
		t.Error("asked of", i)
		return true
	}
	d.Crash(never)
	write(t, d, 1, filled(1))
	d.Sync()
	d.Crash(never)
	write(t, d, 2, filled(1))
	d.Crash(none)
	d.Crash(never)
	write(t, d, 2, filled(1))
	d.Crash(all)
	d.Crash(never)
	d.Write(3, filled(1))
	d.Write(-1, filled(1))
	d.Crash(never)
}

func TestCrashOfANilKeep(t *testing.T) {
	d := made(t, 2)
	d.Crash(nil)
	write(t, d, 0, filled(1))
	d.Sync()
	write(t, d, 0, filled(2))
	write(t, d, 1, filled(3))
	d.Crash(nil)
	dirty(t, d)
	reads(t, d, 0, filled(1))
	reads(t, d, 1, zeros)
}

// TestKeepMayLook asks the device itself in keep: it stands as it did ahead of the crash.
func TestKeepMayLook(t *testing.T) {
	d := made(t, 3)
	for i := range 3 {
		write(t, d, i, filled(uint64(i)))
	}
	d.Sync()
	for i := range 3 {
		write(t, d, i, filled(uint64(i)+10))
	}
	d.Crash(func(i int) bool {
		dirty(t, d, 0, 1, 2)
		for j := range 3 {
			reads(t, d, j, filled(uint64(j)+10))
			lasts(t, d, j, filled(uint64(j)))
		}
		return i == 0
	})
	reads(t, d, 0, filled(10))
	reads(t, d, 1, filled(1))
	reads(t, d, 2, filled(2))
}

func TestKeepMaySync(t *testing.T) {
	d := made(t, 2)
	write(t, d, 0, filled(1))
	write(t, d, 1, filled(2))
	d.Crash(func(int) bool {
		d.Sync()
		return true
	})
	dirty(t, d)
	reads(t, d, 0, filled(1))
	reads(t, d, 1, filled(2))
}

func TestDirty(t *testing.T) {
	d := made(t, 4)
	dirty(t, d)
	for _, c := range []struct {
		i    int
		want []int
	}{{3, []int{3}}, {0, []int{0, 3}}, {2, []int{0, 2, 3}}, {3, []int{0, 2, 3}}, {1, []int{0, 1, 2, 3}}} {
		write(t, d, c.i, filled(1))
		dirty(t, d, c.want...)
	}
	d.Sync()
	dirty(t, d)
	write(t, d, 2, filled(2))
	dirty(t, d, 2)
}

func TestDirtySharesNoMemory(t *testing.T) {
	d := made(t, 4)
	write(t, d, 1, filled(1))
	write(t, d, 2, filled(1))
	l := d.Dirty()
	l[0], l[1] = 7, 8
	_ = append(l[:1], 9)
	dirty(t, d, 1, 2)
	d.Sync()
	if l[0] != 7 {
		t.Error("a list that was told is changed:", l)
	}
}

// P3.4: Writes, Syncs and Copy.

func TestCounts(t *testing.T) {
	d := made(t, 2)
	for i, c := range []struct {
		do            func()
		writes, syncs int64
	}{
		{func() { d.Write(0, filled(1)) }, 1, 0},
		{func() { d.Write(0, filled(1)) }, 2, 0},
		{func() { d.Write(2, filled(1)) }, 2, 0},
		{func() { d.Write(-1, filled(1)) }, 2, 0},
		{func() {
			d.Read(0)
			d.Read(2)
			d.Lasting(1)
			d.Dirty()
			d.Len()
			d.Copy()
		}, 2, 0},
		{d.Sync, 2, 1},
		{d.Sync, 2, 2},
		{func() { d.Write(1, zeros) }, 3, 2},
		{func() { d.Crash(all) }, 3, 2},
		{func() { d.Write(1, filled(4)) }, 4, 2},
		{func() { d.Crash(none) }, 4, 2},
		{d.Sync, 4, 3},
	} {
		c.do()
		if d.Writes() != c.writes || d.Syncs() != c.syncs {
			t.Errorf("behind %d: %d writes, %d syncs, not %d and %d", i, d.Writes(), d.Syncs(), c.writes, c.syncs)
		}
	}
}

// copied tells a device with synced sectors, written ones and counts.
func copied(t *testing.T) *Disk {
	t.Helper()
	d := made(t, 4)
	write(t, d, 0, filled(1))
	write(t, d, 1, filled(2))
	d.Sync()
	write(t, d, 1, filled(3))
	write(t, d, 2, filled(4))
	return d
}

// isCopied sees to it that a device is as copied tells it.
func isCopied(t *testing.T, d *Disk) {
	t.Helper()
	if d.Len() != 4 {
		t.Error("Len", d.Len())
	}
	for i, want := range [][8]uint64{filled(1), filled(3), filled(4), zeros} {
		reads(t, d, i, want)
	}
	for i, want := range [][8]uint64{filled(1), filled(2), zeros, zeros} {
		lasts(t, d, i, want)
	}
	dirty(t, d, 1, 2)
	counts(t, d, 4, 1)
}

func TestCopyIsTheSame(t *testing.T) {
	d := copied(t)
	c := d.Copy()
	if c == d {
		t.Error("a copy is the device itself")
	}
	isCopied(t, d)
	isCopied(t, c)
	isCopied(t, c.Copy())
	for _, n := range []int{1, 4096} {
		if c := made(t, n).Copy(); c.Len() != n || c.Writes() != 0 || c.Syncs() != 0 || len(c.Dirty()) != 0 {
			t.Errorf("a copy of %d sectors at first", n)
		}
	}
}

func TestCopyIsApart(t *testing.T) {
	for i, do := range []func(d *Disk){
		func(d *Disk) { d.Write(0, filled(9)) },
		func(d *Disk) { d.Write(1, filled(9)) },
		func(d *Disk) { d.Write(3, filled(9)) },
		func(d *Disk) { d.Sync() },
		func(d *Disk) { d.Crash(none) },
		func(d *Disk) { d.Crash(all) },
		func(d *Disk) { d.Crash(only(2)) },
		func(d *Disk) { d.Sync(); d.Write(0, filled(9)); d.Write(3, filled(9)); d.Sync() },
	} {
		d := copied(t)
		c := d.Copy()
		do(c)
		isCopied(t, d)
		c = d.Copy()
		do(d)
		isCopied(t, c)
		if t.Failed() {
			t.Fatal("behind", i)
		}
	}
}

func TestACopyGoesOnAsTheDeviceWould(t *testing.T) {
	d := copied(t)
	c := d.Copy()
	for _, e := range []*Disk{d, c} {
		e.Crash(only(2))
		for i, want := range [][8]uint64{filled(1), filled(2), filled(4), zeros} {
			reads(t, e, i, want)
			lasts(t, e, i, want)
		}
		write(t, e, 3, filled(6))
		e.Sync()
		lasts(t, e, 3, filled(6))
		counts(t, e, 5, 2)
	}
}

// P3.5: what was synced, and not written since, lasts whatever is chosen.

func TestWhatWasSyncedLasts(t *testing.T) {
	for kept := range 1 << 5 {
		d := made(t, 5)
		for i := range 5 {
			write(t, d, i, filled(uint64(i)))
		}
		d.Sync()
		write(t, d, 1, filled(20))
		write(t, d, 4, filled(20))
		for range 3 {
			d.Crash(func(i int) bool { return kept>>i&1 == 1 })
			for _, i := range []int{0, 2, 3} {
				reads(t, d, i, filled(uint64(i)))
				lasts(t, d, i, filled(uint64(i)))
			}
		}
	}
}

// model is a device told by the document's words: what was written last, what stood at the last sync or crash, which were written since.
type model struct {
	last, synced  [][8]uint64
	since         []bool
	writes, syncs int64
}

func newModel(n int) *model {
	return &model{last: make([][8]uint64, n), synced: make([][8]uint64, n), since: make([]bool, n)}
}

func (m *model) write(i int, s [8]uint64) {
	m.last[i], m.since[i] = s, true
	m.writes++
}

func (m *model) sync() {
	copy(m.synced, m.last)
	clear(m.since)
	m.syncs++
}

func (m *model) crash(keep func(i int) bool) {
	for i := range m.last {
		if m.since[i] && !keep(i) {
			m.last[i] = m.synced[i]
		}
	}
	copy(m.synced, m.last)
	clear(m.since)
}

func (m *model) copy() *model {
	return &model{slices.Clone(m.last), slices.Clone(m.synced), slices.Clone(m.since), m.writes, m.syncs}
}

// same sees to it that a device is as its model.
func same(t *testing.T, d *Disk, m *model) {
	t.Helper()
	var since []int
	for i := range m.last {
		reads(t, d, i, m.last[i])
		lasts(t, d, i, m.synced[i])
		if m.since[i] {
			since = append(since, i)
		}
	}
	dirty(t, d, since...)
	counts(t, d, m.writes, m.syncs)
}

func TestAnyCallsAgainstAModel(t *testing.T) {
	rnd := rand.New(rand.NewSource(2))
	for round := range 100 {
		n := 1 + rnd.Intn(6)
		devices, models := []*Disk{made(t, n)}, []*model{newModel(n)}
		for range 80 {
			k := rnd.Intn(len(devices))
			d, m := devices[k], models[k]
			switch rnd.Intn(10) {
			case 0:
				d.Sync()
				m.sync()
			case 1:
				kept := rnd.Intn(1 << n)
				keep := func(i int) bool { return kept>>i&1 == 1 }
				d.Crash(keep)
				m.crash(keep)
			case 2:
				if len(devices) < 4 {
					devices, models = append(devices, d.Copy()), append(models, m.copy())
				}
			case 3:
				if e := d.Write(n+rnd.Intn(3), filled(1)); e != api.ErrRange {
					t.Fatal(e)
				}
			default:
				i, s := rnd.Intn(n), filled(uint64(rnd.Intn(4)))
				write(t, d, i, s)
				m.write(i, s)
			}
			for k := range devices {
				same(t, devices[k], models[k])
			}
			if t.Failed() {
				t.Fatal("in round", round)
			}
		}
	}
}

// Of nil, and the rules that hold everywhere.

func TestANilDevice(t *testing.T) {
	var d *Disk
	for range 2 {
		if d.Len() != 0 || d.Writes() != 0 || d.Syncs() != 0 || len(d.Dirty()) != 0 || d.Copy() != nil {
			t.Error("a nil device has something")
		}
		for _, i := range append(without(1), 0, 4095) {
			if e := d.Write(i, filled(1)); e != api.ErrRange {
				t.Errorf("Write(%d): %d", i, e)
			}
			if s, e := d.Read(i); s != zeros || e != api.ErrRange {
				t.Errorf("Read(%d): %x, %d", i, s, e)
			}
			lasts(t, d, i, zeros)
		}
		d.Sync()
		d.Crash(nil)
		d.Crash(func(i int) bool {
			t.Error("asked of", i)
			return true
		})
	}
}

func TestWhatWasHandedInIsNotKept(t *testing.T) {
	d := made(t, 1)
	s := filled(1)
	write(t, d, 0, s)
	s[0] = 99
	reads(t, d, 0, filled(1))
	r, _ := d.Read(0)
	r[0] = 99
	reads(t, d, 0, filled(1))
	d.Sync()
	l := d.Lasting(0)
	l[0] = 99
	lasts(t, d, 0, filled(1))
}
