package step

import (
	"fmt"
	"math"
	"math/big"
	"math/rand"
	"slices"
	"testing"

	"gimmal/api"
	"gimmal/foot"
	"gimmal/pages"
	"gimmal/prog"
)

// The model: what the document's words say, done plainly on a map, key by key.

// keySet is a set of keys, key by key.
type keySet [1000]bool

// fill adds the keys from one to another.
func (s *keySet) fill(lo, hi int) {
	for k := lo; k <= hi; k++ {
		s[k] = true
	}
}

// plain tells a set's keys as a plain list.
func (s *keySet) plain() []api.Span {
	var l []api.Span
	for k := range s {
		if !s[k] {
			continue
		}
		if k == 0 || !s[k-1] {
			l = append(l, api.Span{Lo: k, Hi: k})
		}
		l[len(l)-1].Hi = k
	}
	return l
}

// setOf tells the keys of spans; one that may not be has none.
func setOf(l []api.Span) keySet {
	var s keySet
	for _, x := range l {
		if x.Lo >= 0 && x.Hi <= 999 {
			s.fill(x.Lo, x.Hi)
		}
	}
	return s
}

// keyFor tells a template's key for arguments.
func keyFor(k api.KeyT, args []int) int {
	if k.Arg < 0 {
		return k.Base
	}
	return k.Base + args[k.Arg]
}

// suits tells whether a step may be for as many arguments, and these may be too.
func suits(s api.Step, args []int) bool {
	for _, a := range args {
		if a < 0 || a > 99 {
			return false
		}
	}
	n := len(args)
	return n <= 3 && (len(s.Code) == 0 || prog.May(s.Code, n)) && foot.May(s.Foot, n)
}

// pairsOf tells what a store has; nil has nothing.
func pairsOf(s *pages.Store) map[int]int64 {
	all := map[int]int64{}
	for _, p := range s.Scan(0, 999) {
		all[p.Key] = p.Value
	}
	return all
}

// fits tells a number, and whether it is one from -2^63 to 2^63 - 1.
func fits(x *big.Int) (int64, bool) { return x.Int64(), x.IsInt64() }

// machine is the model of a step while it is done.
type machine struct {
	step          api.Step
	args          []int
	asked         bool
	regs          [4]int64
	pairs         map[int]int64
	reads, writes keySet
	last          map[int]api.Change
}

// allowed tells whether the keys from one to another may be read, or written.
func (m *machine) allowed(lo, hi int, write bool) bool {
	var s keySet
	for _, f := range m.step.Foot {
		if f.Write || !write {
			s.fill(keyFor(f.Lo, m.args), keyFor(f.Hi, m.args))
		}
	}
	for k := lo; k <= hi; k++ {
		if m.asked && !s[k] {
			return false
		}
	}
	return true
}

// do does an instruction, and tells what it fails with.
func (m *machine) do(x api.Instr) api.Errno {
	switch x.Op {
	case 1, 4:
		return m.read(x)
	case 2, 3:
		return m.write(x)
	case 5:
		m.regs[x.A] = x.X
	case 6, 7:
		b, c := big.NewInt(m.regs[x.B]), big.NewInt(m.regs[x.C])
		if x.Op == 7 {
			c.Neg(c)
		}
		sum, ok := fits(b.Add(b, c))
		if !ok {
			return 8
		}
		m.regs[x.A] = sum
	case 8:
		if m.regs[x.A] < x.X {
			return 7
		}
	}
	return 0
}

// read does a Get, or a Scan.
func (m *machine) read(x api.Instr) api.Errno {
	lo := keyFor(x.K, m.args)
	hi := lo
	if x.Op == 4 {
		hi = keyFor(x.L, m.args)
	}
	if !m.allowed(lo, hi, false) {
		return 9
	}
	m.reads.fill(lo, hi)
	m.regs[x.A] = m.pairs[lo]
	if x.Op == 4 {
		m.regs[x.A] = 0
		for k := lo; k <= hi; k++ {
			if _, ok := m.pairs[k]; ok {
				m.regs[x.A]++
			}
		}
	}
	return 0
}

// write does a Put, or a Delete.
func (m *machine) write(x api.Instr) api.Errno {
	k := keyFor(x.K, m.args)
	if !m.allowed(k, k, true) {
		return 9
	}
	m.writes[k] = true
	if x.Op == 2 {
		m.pairs[k] = m.regs[x.A]
		m.last[k] = api.Change{Key: k, Value: m.regs[x.A]}
	} else {
		delete(m.pairs, k)
		m.last[k] = api.Change{Key: k, Gone: true}
	}
	return 0
}

// ran tells a step's outcome, and the keys that it has read, also if it fails.
func ran(c call) (api.Outcome, keySet) {
	m := machine{step: c.step, args: c.args, asked: c.asked, regs: c.regs, pairs: pairsOf(c.store), last: map[int]api.Change{}}
	if !suits(c.step, c.args) {
		return api.Outcome{Code: 1, Regs: c.regs}, m.reads
	}
	for i, x := range c.step.Code {
		if code := m.do(x); code != 0 {
			return api.Outcome{Code: code, At: i, Regs: c.regs}, m.reads
		}
	}
	o := api.Outcome{Regs: m.regs, Reads: m.reads.plain(), Writes: m.writes.plain()}
	for k := range 1000 {
		if x, ok := m.last[k]; ok {
			o.Changes = append(o.Changes, x)
		}
	}
	return o, m.reads
}

// conflicting tells whether two outcomes conflict.
func conflicting(a, b api.Outcome) bool {
	ar, aw, br, bw := setOf(a.Reads), setOf(a.Writes), setOf(b.Reads), setOf(b.Writes)
	for k := range 1000 {
		if aw[k] && (br[k] || bw[k]) || bw[k] && (ar[k] || aw[k]) {
			return true
		}
	}
	return false
}

// What is tried.

// call is what Run is given.
type call struct {
	step  api.Step
	args  []int
	regs  [4]int64
	store *pages.Store
	asked bool
}

// run runs it.
func (c call) run() api.Outcome { return Run(c.step, c.args, c.regs, c.store, c.asked) }

// told tells all that is handed in, the store's pages too.
func (c call) told() string {
	return fmt.Sprint(c.step, c.args, c.regs, c.store.Scan(0, 999), c.store.Pages(), c.asked)
}

// whole tells all that an outcome has; nil and empty are one and the same in it.
func whole(o api.Outcome) string {
	return fmt.Sprint(int(o.Code), o.At, o.Regs, o.Reads, o.Writes, o.Changes)
}

// far has numbers at the ends of what there is.
var far = []int{math.MinInt, math.MinInt + 1, -1 << 32, 1<<32 - 1, 1 << 32, 1<<32 + 1, math.MaxInt - 1, math.MaxInt}

// key tells a template that hangs on an argument, at one that hangs on none.
func key(arg, base int) api.KeyT { return api.KeyT{Arg: arg, Base: base} }
func at(base int) api.KeyT       { return key(-1, base) }

// Instructions.
func get(a int, k api.KeyT) api.Instr     { return api.Instr{Op: api.OpGet, A: a, K: k} }
func put(a int, k api.KeyT) api.Instr     { return api.Instr{Op: api.OpPut, A: a, K: k} }
func take(k api.KeyT) api.Instr           { return api.Instr{Op: api.OpDelete, K: k} }
func scan(a int, k, l api.KeyT) api.Instr { return api.Instr{Op: api.OpScan, A: a, K: k, L: l} }
func set(a int, x int64) api.Instr        { return api.Instr{Op: api.OpSet, A: a, X: x} }
func add(a, b, c int) api.Instr           { return api.Instr{Op: api.OpAdd, A: a, B: b, C: c} }
func sub(a, b, c int) api.Instr           { return api.Instr{Op: api.OpSub, A: a, B: b, C: c} }
func guard(a int, x int64) api.Instr      { return api.Instr{Op: api.OpGuard, A: a, X: x} }

// from tells a span of a footprint, of keys that hang on no argument, that is read alone; written one that is written, too.
func from(lo, hi int) api.SpanT    { return api.SpanT{Lo: at(lo), Hi: at(hi)} }
func written(lo, hi int) api.SpanT { return api.SpanT{Lo: at(lo), Hi: at(hi), Write: true} }

// code tells a step of instructions, without a footprint.
func code(l ...api.Instr) api.Step { return api.Step{Code: l} }

// with tells a step that has a footprint.
func with(s api.Step, l ...api.SpanT) api.Step {
	s.Foot = l
	return s
}

// spans tells a list of spans: each two numbers are one.
func spans(l ...int) []api.Span {
	var all []api.Span
	for i := 0; i < len(l); i += 2 {
		all = append(all, api.Span{Lo: l[i], Hi: l[i+1]})
	}
	return all
}

// valued tells a change to a value, gone one of a key that is taken out.
func valued(k int, v int64) api.Change { return api.Change{Key: k, Value: v} }
func gone(k int) api.Change            { return api.Change{Key: k, Gone: true} }

// changes tells a list of changes.
func changes(l ...api.Change) []api.Change { return l }

// storeOf tells a store of keys, each with ten times itself and one more as its value.
func storeOf(l ...int) *pages.Store {
	s := &pages.Store{}
	for _, k := range l {
		s.Put(k, valueOf(k))
	}
	return s
}

// valueOf tells the value of a key in a store of storeOf.
func valueOf(k int) int64 { return int64(10*k + 1) }

// some tells a store of a few keys, on one page.
func some() *pages.Store { return storeOf(5, 6, 9, 0, 999) }

// tells sees to it that a step has an outcome, as the model says too, and that what was handed in is left as it was.
func tells(t *testing.T, c call, want api.Outcome) {
	t.Helper()
	if o, _ := ran(c); whole(o) != whole(want) {
		t.Fatalf("the model of %s: %s, not %s", c.told(), whole(o), whole(want))
	}
	before := c.told()
	if o := c.run(); whole(o) != whole(want) {
		t.Errorf("Run of %s: %s, not %s", before, whole(o), whole(want))
	}
	if c.told() != before {
		t.Errorf("Run of %s changed it: %s", before, c.told())
	}
}

// fails sees to it that a step fails with an error at an instruction, with the registers as they were, and nothing else.
func fails(t *testing.T, c call, code api.Errno, at int) {
	t.Helper()
	tells(t, c, api.Outcome{Code: code, At: at, Regs: c.regs})
}

// both tells a call with its footprint asked, of one that covers all keys from 0 to 900, and one that isn't asked, of none.
func both(c call) []call {
	asked := c
	asked.step = with(c.step, written(0, 900))
	asked.asked = true
	return []call{c, asked}
}

// P13.1: Run, of a step that doesn't fail.

// does sees to it that a step without arguments has an outcome, whether its footprint is asked or not.
func does(t *testing.T, s api.Step, regs [4]int64, store *pages.Store, want api.Outcome) {
	t.Helper()
	for _, c := range both(call{step: s, regs: regs, store: store}) {
		tells(t, c, want)
	}
}

// TestRun says the chapter's example.
func TestRun(t *testing.T) {
	s := code(put(0, at(5)), get(1, at(5)))
	want := api.Outcome{Regs: [4]int64{7, 7}, Reads: spans(5, 5), Writes: spans(5, 5), Changes: changes(valued(5, 7))}
	does(t, s, [4]int64{7}, some(), want)
	does(t, s, [4]int64{7}, storeOf(), want)
	tells(t, call{step: with(s, written(5, 5)), regs: [4]int64{7}, store: some(), asked: true}, want)
}

// TestRunOfNothing: a step without code does nothing, if its footprint may be.
func TestRunOfNothing(t *testing.T) {
	regs := [4]int64{1, -2, math.MaxInt64, math.MinInt64}
	for _, asked := range []bool{false, true} {
		for _, args := range [][]int{nil, {}, {0}, {99, 0}, {1, 2, 3}} {
			for _, l := range [][]api.SpanT{nil, {}, {from(5, 7)}, {written(9, 0), from(0, 900), from(1, 1), from(2, 2)}} {
				tells(t, call{step: api.Step{Foot: l}, args: args, regs: regs, store: some(), asked: asked}, api.Outcome{Regs: regs})
				tells(t, call{step: api.Step{Code: []api.Instr{}, Foot: l}, args: args, regs: regs, asked: asked}, api.Outcome{Regs: regs})
			}
			l := []api.SpanT{{Lo: at(5), Hi: key(2, 5)}}
			if len(args) == 3 {
				tells(t, call{step: api.Step{Foot: l}, args: args, regs: regs, asked: asked}, api.Outcome{Regs: regs})
			} else {
				fails(t, call{step: api.Step{Foot: l}, args: args, regs: regs, asked: asked}, api.ErrArg, 0)
			}
		}
	}
	tells(t, call{}, api.Outcome{})
	tells(t, call{asked: true}, api.Outcome{})
}

// TestRunOfEachOp does each Op alone, with each register.
func TestRunOfEachOp(t *testing.T) {
	for a := range 4 {
		regs := [4]int64{-1, -20, 300, 4000}
		put7 := func(x int64) [4]int64 {
			l := regs
			l[a] = x
			return l
		}
		does(t, code(get(a, at(6))), regs, some(), api.Outcome{Regs: put7(61), Reads: spans(6, 6)})
		does(t, code(get(a, at(7))), regs, some(), api.Outcome{Regs: put7(0), Reads: spans(7, 7)})
		does(t, code(put(a, at(6))), regs, some(), api.Outcome{Regs: regs, Writes: spans(6, 6), Changes: changes(valued(6, regs[a]))})
		does(t, code(put(a, at(7))), regs, some(), api.Outcome{Regs: regs, Writes: spans(7, 7), Changes: changes(valued(7, regs[a]))})
		does(t, code(scan(a, at(5), at(9))), regs, some(), api.Outcome{Regs: put7(3), Reads: spans(5, 9)})
		does(t, code(set(a, 77)), regs, some(), api.Outcome{Regs: put7(77)})
		does(t, code(guard(a, regs[a])), regs, some(), api.Outcome{Regs: regs})
		for b := range 4 {
			for c := range 4 {
				does(t, code(add(a, b, c)), regs, some(), api.Outcome{Regs: put7(regs[b] + regs[c])})
				does(t, code(sub(a, b, c)), regs, some(), api.Outcome{Regs: put7(regs[b] - regs[c])})
			}
		}
	}
	does(t, code(take(at(6))), [4]int64{8, 9}, some(), api.Outcome{Regs: [4]int64{8, 9}, Writes: spans(6, 6), Changes: changes(gone(6))})
	does(t, code(take(at(7))), [4]int64{8, 9}, some(), api.Outcome{Regs: [4]int64{8, 9}, Writes: spans(7, 7), Changes: changes(gone(7))})
}

// TestRunOfEightInstructions does as many as there may be, each with what those ahead of it left.
func TestRunOfEightInstructions(t *testing.T) {
	s := code(get(0, at(5)), set(1, 7), add(2, 0, 1), put(2, at(7)), take(at(6)), scan(3, at(5), at(9)), sub(0, 2, 3), guard(0, 55))
	does(t, s, [4]int64{}, some(), api.Outcome{Regs: [4]int64{55, 7, 58, 3}, Reads: spans(5, 9), Writes: spans(6, 7), Changes: changes(gone(6), valued(7, 58))})
	s = code(slices.Repeat([]api.Instr{add(0, 0, 0)}, 8)...)
	does(t, s, [4]int64{1}, nil, api.Outcome{Regs: [4]int64{256}})
	fails(t, call{step: code(slices.Repeat([]api.Instr{add(0, 0, 0)}, 9)...), regs: [4]int64{1}}, api.ErrArg, 0)
}

// TestRunSeesItsOwnChanges: a Get and a Scan read the store with the changes of the instructions ahead in it.
func TestRunSeesItsOwnChanges(t *testing.T) {
	regs := [4]int64{7, 8}
	for _, c := range []struct {
		s   api.Step
		got int64
		l   []api.Change
	}{
		{code(put(0, at(5)), get(3, at(5))), 7, changes(valued(5, 7))},
		{code(put(0, at(7)), get(3, at(7))), 7, changes(valued(7, 7))},
		{code(put(2, at(5)), get(3, at(5))), 0, changes(valued(5, 0))},
		{code(take(at(5)), get(3, at(5))), 0, changes(gone(5))},
		{code(take(at(7)), get(3, at(7))), 0, changes(gone(7))},
		{code(put(0, at(5)), put(1, at(5)), get(3, at(5))), 8, changes(valued(5, 8))},
		{code(put(0, at(5)), take(at(5)), get(3, at(5))), 0, changes(gone(5))},
		{code(take(at(5)), put(0, at(5)), get(3, at(5))), 7, changes(valued(5, 7))},
		{code(put(0, at(7)), take(at(7)), get(3, at(7))), 0, changes(gone(7))},
		{code(take(at(7)), put(1, at(7)), get(3, at(7))), 8, changes(valued(7, 8))},
		{code(take(at(5)), take(at(5)), get(3, at(5))), 0, changes(gone(5))},
		{code(put(0, at(5)), take(at(5)), put(1, at(5)), get(3, at(5))), 8, changes(valued(5, 8))},
		{code(put(0, at(5)), set(0, 70), get(3, at(5))), 7, changes(valued(5, 7))},
	} {
		k := c.l[0].Key
		want := api.Outcome{Regs: [4]int64{7, 8, 0, c.got}, Reads: spans(k, k), Writes: spans(k, k), Changes: c.l}
		if c.s.Code[1].Op == api.OpSet {
			want.Regs[0] = 70
		}
		does(t, c.s, regs, some(), want)
	}
	// Keys beside those that are written have what they had.
	does(t, code(put(0, at(5)), take(at(9)), get(2, at(6)), get(3, at(7))), regs, some(), api.Outcome{Regs: [4]int64{7, 8, 61, 0}, Reads: spans(6, 7), Writes: spans(5, 5, 9, 9), Changes: changes(valued(5, 7), gone(9))})
}

// TestRunReadsAheadOfItsChanges: what is changed behind a Get, or a Scan, makes no difference to it.
func TestRunReadsAheadOfItsChanges(t *testing.T) {
	does(t, code(get(2, at(5)), scan(3, at(5), at(9)), take(at(5)), put(0, at(7)), put(0, at(8))), [4]int64{7}, some(), api.Outcome{Regs: [4]int64{7, 0, 51, 3}, Reads: spans(5, 9), Writes: spans(5, 5, 7, 8), Changes: changes(gone(5), valued(7, 7), valued(8, 7))})
}

// TestRunScansItsOwnChanges puts, and takes out, keys ahead of a scan of the keys 5 to 9, of which the store has 5, 6 and 9.
func TestRunScansItsOwnChanges(t *testing.T) {
	for _, c := range []struct {
		l    []api.Instr
		want int64
	}{
		{nil, 3},
		{[]api.Instr{put(0, at(5))}, 3}, {[]api.Instr{put(0, at(9))}, 3},
		{[]api.Instr{put(0, at(7))}, 4}, {[]api.Instr{put(0, at(8)), put(0, at(7))}, 5}, {[]api.Instr{put(0, at(7)), put(1, at(7))}, 4},
		{[]api.Instr{put(0, at(4))}, 3}, {[]api.Instr{put(0, at(10))}, 3}, {[]api.Instr{take(at(4))}, 3}, {[]api.Instr{take(at(10))}, 3},
		{[]api.Instr{take(at(5))}, 2}, {[]api.Instr{take(at(9))}, 2}, {[]api.Instr{take(at(6))}, 2}, {[]api.Instr{take(at(7))}, 3},
		{[]api.Instr{take(at(5)), take(at(5))}, 2}, {[]api.Instr{take(at(5)), take(at(6)), take(at(9))}, 0},
		{[]api.Instr{put(0, at(7)), take(at(7))}, 3}, {[]api.Instr{take(at(7)), put(0, at(7))}, 4},
		{[]api.Instr{put(0, at(5)), take(at(5))}, 2}, {[]api.Instr{take(at(5)), put(0, at(5))}, 3},
		{[]api.Instr{take(at(5)), put(0, at(7)), put(0, at(8)), take(at(0))}, 4},
	} {
		s := code(append(slices.Clone(c.l), scan(3, at(5), at(9)))...)
		for _, x := range both(call{step: s, store: some()}) {
			want, _ := ran(x)
			if want.Regs[3] != c.want {
				t.Fatalf("the model of %s: %s", x.told(), whole(want))
			}
			tells(t, x, want)
		}
	}
}

// TestRunOfAScan scans from each key to each other one, near the edges of what there is.
func TestRunOfAScan(t *testing.T) {
	store := storeOf(0, 1, 5, 6, 9, 20, 21, 22, 23, 24, 25, 26, 900, 998, 999)
	for _, lo := range []int{0, 1, 2, 5, 8, 9, 10, 23, 801, 899, 900} {
		for _, hi := range []int{0, 1, 2, 5, 8, 9, 10, 23, 801, 899, 900} {
			for _, args := range [][]int{{0}, {98}, {99}} {
				c := call{step: code(scan(2, at(lo), key(0, hi))), args: args, store: store}
				want, reads := ran(c)
				if n := max(0, hi+args[0]-lo+1); len(slices.DeleteFunc(slices.Clone(reads[:]), func(b bool) bool { return !b })) != n {
					t.Fatal("the model of", lo, hi, args)
				}
				tells(t, c, want)
			}
		}
	}
	does(t, code(scan(1, at(0), at(900))), [4]int64{}, store, api.Outcome{Regs: [4]int64{0, 13}, Reads: spans(0, 900)})
	// None, if the last key is below the first one, by however much.
	does(t, code(scan(1, at(6), at(5))), [4]int64{4, 5, 6, 7}, store, api.Outcome{Regs: [4]int64{4, 0, 6, 7}})
	does(t, code(scan(1, at(900), at(0))), [4]int64{4, 5, 6, 7}, store, api.Outcome{Regs: [4]int64{4, 0, 6, 7}})
	does(t, code(put(0, at(5)), put(0, at(6)), take(at(9)), scan(1, at(9), at(5))), [4]int64{4, 5}, store, api.Outcome{Regs: [4]int64{4, 0}, Writes: spans(5, 6, 9, 9), Changes: changes(valued(5, 4), valued(6, 4), gone(9))})
	// Of one key.
	does(t, code(scan(1, at(6), at(6)), scan(2, at(7), at(7))), [4]int64{}, store, api.Outcome{Regs: [4]int64{0, 1}, Reads: spans(6, 7)})
}

// TestRunTellsChangesRising puts and takes out keys in each order.
func TestRunTellsChangesRising(t *testing.T) {
	l := []api.Instr{put(0, at(3)), take(at(300)), put(1, at(900)), take(at(0))}
	want := api.Outcome{Regs: [4]int64{7, 8}, Writes: spans(0, 0, 3, 3, 300, 300, 900, 900), Changes: changes(gone(0), valued(3, 7), gone(300), valued(900, 8))}
	rnd := rand.New(rand.NewSource(1))
	for range 100 {
		rnd.Shuffle(len(l), func(i, k int) { l[i], l[k] = l[k], l[i] })
		does(t, code(l...), [4]int64{7, 8}, some(), want)
	}
	// The last one of each key, wherever the others stand.
	does(t, code(put(0, at(9)), put(0, at(2)), put(1, at(9)), take(at(2)), take(at(5)), put(1, at(5)), put(0, at(1)), take(at(10))), [4]int64{7, 8}, some(), api.Outcome{Regs: [4]int64{7, 8}, Writes: spans(1, 2, 5, 5, 9, 10), Changes: changes(valued(1, 7), gone(2), valued(5, 8), valued(9, 8), gone(10))})
}

// TestRunTellsPlainLists: keys that are read, or written, side by side are one span, in whatever order they were.
func TestRunTellsPlainLists(t *testing.T) {
	l := []api.Instr{get(0, at(4)), get(0, at(5)), scan(0, at(6), at(8)), get(0, at(10)), put(1, at(20)), take(at(21)), put(1, at(19)), put(1, at(23))}
	rnd := rand.New(rand.NewSource(2))
	for range 100 {
		rnd.Shuffle(len(l), func(i, k int) { l[i], l[k] = l[k], l[i] })
		o := Run(code(l...), nil, [4]int64{}, some(), false)
		if !slices.Equal(o.Reads, spans(4, 8, 10, 10)) || !slices.Equal(o.Writes, spans(19, 21, 23, 23)) {
			t.Fatal(l, whole(o))
		}
	}
	// Those that are written don't join those that are read.
	does(t, code(get(0, at(4)), put(1, at(5)), get(0, at(6)), take(at(7))), [4]int64{}, nil, api.Outcome{Reads: spans(4, 4, 6, 6), Writes: spans(5, 5, 7, 7), Changes: changes(valued(5, 0), gone(7))})
	// What is read twice, or inside what is read, is read once.
	does(t, code(scan(0, at(3), at(9)), get(0, at(5)), get(0, at(5)), scan(0, at(9), at(12)), scan(0, at(1), at(2))), [4]int64{}, nil, api.Outcome{Reads: spans(1, 12)})
}

// TestRunOfArguments: keys hang on arguments, of which two may tell one key.
func TestRunOfArguments(t *testing.T) {
	s := with(code(put(0, key(0, 5)), put(1, key(1, 7)), get(2, key(2, 10)), scan(3, key(1, 0), key(0, 900))),
		api.SpanT{Lo: key(0, 5), Hi: key(0, 5), Write: true}, api.SpanT{Lo: key(1, 7), Hi: key(1, 7), Write: true}, api.SpanT{Lo: key(2, 10), Hi: key(2, 10)}, api.SpanT{Lo: key(1, 0), Hi: key(0, 900)})
	store := storeOf(5, 7, 10, 104, 106, 109, 990, 999)
	for _, c := range []struct {
		args []int
		regs [4]int64
		r, w []api.Span
		l    []api.Change
	}{
		{[]int{0, 0, 0}, [4]int64{1, 2, 101, 6}, spans(0, 900), spans(5, 5, 7, 7), changes(valued(5, 1), valued(7, 2))},
		{[]int{99, 99, 99}, [4]int64{1, 2, 1091, 5}, spans(99, 999), spans(104, 104, 106, 106), changes(valued(104, 1), valued(106, 2))},
		{[]int{3, 1, 99}, [4]int64{1, 2, 1091, 7}, spans(1, 903), spans(8, 8), changes(valued(8, 2))},
		{[]int{99, 97, 94}, [4]int64{1, 2, 2, 5}, spans(97, 999), spans(104, 104), changes(valued(104, 2))},
		{[]int{5, 98, 0}, [4]int64{1, 2, 1, 4}, spans(10, 10, 98, 905), spans(10, 10, 105, 105), changes(valued(10, 1), valued(105, 2))},
	} {
		for _, asked := range []bool{false, true} {
			tells(t, call{s, c.args, [4]int64{1, 2, 3, 4}, store, asked}, api.Outcome{Regs: c.regs, Reads: c.r, Writes: c.w, Changes: c.l})
		}
	}
	// A key that is put as one argument's is got, and taken out, as another one's.
	s = code(put(0, key(0, 5)), get(1, key(1, 4)), take(key(1, 4)), get(2, key(0, 5)))
	tells(t, call{step: s, args: []int{1, 2}, regs: [4]int64{7, 7, 7}, store: storeOf(6)}, api.Outcome{Regs: [4]int64{7, 7, 0}, Reads: spans(6, 6), Writes: spans(6, 6), Changes: changes(gone(6))})
	tells(t, call{step: s, args: []int{1, 3}, regs: [4]int64{7, 7, 7}, store: storeOf(6, 7)}, api.Outcome{Regs: [4]int64{7, 71, 7}, Reads: spans(6, 7), Writes: spans(6, 7), Changes: changes(valued(6, 7), gone(7))})
}

// TestRunOverStores goes over stores of none, of one page and of many.
func TestRunOverStores(t *testing.T) {
	var l []int
	for n := range 1000 {
		store := storeOf(l...)
		if n < 20 || n%97 == 0 || n > 997 {
			for _, args := range [][]int{{0}, {99}} {
				for _, k := range []int{0, 3, 4, 8, 400, 900} {
					c := call{code(get(0, key(0, k)), take(key(0, k)), scan(1, at(0), key(0, 900)), get(2, key(0, k)), put(1, at(0)), scan(3, at(0), key(0, 900))), args, [4]int64{5, 5, 5, 5}, store, false}
					want, _ := ran(c)
					tells(t, c, want)
				}
			}
		}
		l = append(l, n*7%1000)
	}
}

// TestRunOverNil: a nil store has nothing, and what a step changes it sees all the same.
func TestRunOverNil(t *testing.T) {
	does(t, code(get(0, at(5)), scan(1, at(0), at(900)), put(2, at(5)), get(3, at(5)), scan(1, at(0), at(900)), take(at(6))), [4]int64{1, 2, 3, 4}, nil, api.Outcome{Regs: [4]int64{0, 1, 3, 3}, Reads: spans(0, 900), Writes: spans(5, 6), Changes: changes(valued(5, 3), gone(6))})
	does(t, code(set(0, 4), guard(0, 4), add(0, 0, 0), sub(1, 1, 0)), [4]int64{}, nil, api.Outcome{Regs: [4]int64{8, -8}})
	fails(t, call{step: code(guard(0, 1))}, api.ErrGuard, 0)
	fails(t, call{step: code(get(0, at(5))), asked: true}, api.ErrFoot, 0)
}

// P13.1: Run, of what may not be.

// refused sees to it that what may not be is told ErrArg, whether the footprint is asked or not.
func refused(t *testing.T, s api.Step, args []int) {
	t.Helper()
	for _, asked := range []bool{false, true} {
		for _, store := range []*pages.Store{nil, some()} {
			fails(t, call{s, args, [4]int64{3, -4, math.MinInt64, math.MaxInt64}, store, asked}, api.ErrArg, 0)
		}
	}
}

// TestRunOfHowManyArguments: 0 to 3 there may be.
func TestRunOfHowManyArguments(t *testing.T) {
	for _, s := range []api.Step{{}, code(set(0, 1)), with(api.Step{}, from(5, 5)), with(code(get(0, at(5))), from(5, 5))} {
		for n := range 4 {
			c := call{step: s, args: make([]int, n), store: some(), asked: true}
			want, _ := ran(c)
			if want.Code != api.OK {
				t.Fatal("the model of", c.told())
			}
			tells(t, c, want)
		}
		for _, n := range []int{4, 5, 8, 255, 256, 257} {
			refused(t, s, make([]int, n))
		}
	}
}

// TestRunOfWhichArguments: each is from 0 to 99, also one on which no key hangs.
func TestRunOfWhichArguments(t *testing.T) {
	for _, s := range []api.Step{{}, code(set(0, 1)), with(api.Step{}, from(5, 5)), with(code(get(0, at(5))), from(5, 5)), with(code(get(0, key(0, 5))), from(0, 900))} {
		for n := 1; n <= 3; n++ {
			for at := range n {
				args := []int{7, 8, 9}[:n]
				for _, a := range []int{0, 1, 50, 98, 99} {
					args[at] = a
					c := call{step: s, args: args, store: some(), asked: true}
					want, _ := ran(c)
					if want.Code != api.OK {
						t.Fatal("the model of", c.told())
					}
					tells(t, c, want)
				}
				for _, a := range append([]int{-100, -2, -1, 100, 101, 199, 255, 256, 999}, far...) {
					args[at] = a
					refused(t, s, args)
				}
			}
		}
	}
}

// TestRunOfCodeThatMayNotBe has such code alone, ahead of other code and behind it.
func TestRunOfCodeThatMayNotBe(t *testing.T) {
	bad := []api.Instr{
		{}, {Op: -1}, {Op: 9}, {Op: 10}, {Op: 255}, {Op: math.MinInt}, {Op: math.MaxInt}, {Op: api.OpGet + 256, K: at(5)},
		set(4, 1), set(-1, 1), get(4, at(5)), put(-1, at(5)), scan(4, at(5), at(6)), add(4, 0, 0), add(0, 4, 0), add(0, 0, 4), sub(-1, 0, 0), sub(0, -1, 0), sub(0, 0, -1), guard(4, 0), guard(-1, math.MinInt64),
		get(0, key(1, 5)), get(0, key(-2, 5)), get(0, at(-1)), get(0, at(901)), put(0, key(1, 5)), put(0, at(901)), take(key(1, 5)), take(at(-1)), take(at(901)),
		scan(0, key(1, 5), at(6)), scan(0, at(5), key(1, 6)), scan(0, at(901), at(5)), scan(0, at(5), at(901)), scan(0, at(-1), at(5)), scan(0, at(5), at(-1)),
		{Op: api.OpGet, B: 1, K: at(5)}, {Op: api.OpPut, X: 1, K: at(5)}, {Op: api.OpDelete, A: 1, K: at(5)}, {Op: api.OpSet, K: at(5)}, {Op: api.OpSet, B: 1}, {Op: api.OpAdd, X: 1}, {Op: api.OpSub, L: at(0)}, {Op: api.OpGuard, C: 1}, {Op: api.OpScan, A: 1, K: at(5), L: at(6), X: -1},
	}
	for _, x := range bad {
		for _, l := range [][]api.Instr{{x}, {x, set(0, 1)}, {set(0, 1), put(0, at(5)), x}, {guard(0, 1000), x}} {
			refused(t, with(code(l...), written(0, 900)), []int{7})
			refused(t, code(l...), []int{7})
		}
	}
	for _, n := range []int{9, 10, 16, 256, 264} {
		refused(t, code(slices.Repeat([]api.Instr{set(0, 1)}, n)...), nil)
	}
}

// TestRunOfHowManyArgumentsACodeHas: templates hang on arguments that there are.
func TestRunOfHowManyArgumentsACodeHas(t *testing.T) {
	for arg := -1; arg < 3; arg++ {
		for n := range 4 {
			for _, x := range []api.Instr{get(0, key(arg, 5)), put(0, key(arg, 5)), take(key(arg, 5)), scan(0, key(arg, 5), at(5)), scan(0, at(5), key(arg, 5))} {
				if arg >= n {
					refused(t, code(x), make([]int, n))
					continue
				}
				c := call{step: code(x), args: make([]int, n), store: some()}
				want, _ := ran(c)
				if want.Code != api.OK {
					t.Fatal("the model of", c.told())
				}
				tells(t, c, want)
			}
		}
	}
}

// TestRunOfAFootThatMayNotBe: it must be one that may be, whether it is asked or not.
func TestRunOfAFootThatMayNotBe(t *testing.T) {
	bad := [][]api.SpanT{
		{{}, {}, {}, {}, {}}, slices.Repeat([]api.SpanT{written(0, 900)}, 5),
		{{Lo: key(1, 5), Hi: at(5)}}, {{Lo: at(5), Hi: key(1, 5)}}, {{Lo: key(-2, 5), Hi: at(5)}}, {from(0, 901)}, {from(-1, 900)}, {from(901, 0)}, {written(5, -1)},
		{written(0, 900), {Lo: at(5), Hi: key(1, 5), Write: true}}, {written(0, 900), from(1, 1), from(2, 2), from(3, 901)},
	}
	for _, l := range bad {
		for _, s := range []api.Step{{}, code(set(0, 1)), code(get(0, at(5))), code(guard(0, 1000)), code(api.Instr{})} {
			refused(t, with(s, l...), []int{7})
		}
	}
	for arg := -1; arg < 3; arg++ {
		for n := range 4 {
			s := with(code(get(0, at(5))), from(5, 5), api.SpanT{Lo: key(arg, 5), Hi: key(arg, 5)})
			if arg >= n {
				refused(t, s, make([]int, n))
				continue
			}
			for _, asked := range []bool{false, true} {
				tells(t, call{step: s, args: make([]int, n), store: some(), asked: asked}, api.Outcome{Regs: [4]int64{51}, Reads: spans(5, 5)})
			}
		}
	}
}

// P13.1: Run, of a step that fails.

// TestRunFailsByItsFoot: by a Get, a Put, a Delete and a Scan, as the first instruction and as the last one.
func TestRunFailsByItsFoot(t *testing.T) {
	bad := []struct {
		x    api.Instr
		foot []api.SpanT
	}{
		{get(0, at(5)), nil}, {put(0, at(5)), nil}, {take(at(5)), nil}, {scan(0, at(5), at(5)), nil}, {scan(0, at(5), at(9)), nil},
		{get(0, at(5)), []api.SpanT{written(0, 4), written(6, 900)}}, {put(0, at(5)), []api.SpanT{written(0, 4), written(6, 900)}}, {take(at(5)), []api.SpanT{written(0, 4), written(6, 900)}},
		{put(0, at(5)), []api.SpanT{from(0, 900)}}, {take(at(5)), []api.SpanT{from(0, 900)}}, {put(0, at(5)), []api.SpanT{from(5, 5), written(4, 4), written(6, 6)}}, {take(at(5)), []api.SpanT{from(5, 5), written(4, 4), written(6, 6)}},
		{scan(0, at(5), at(9)), []api.SpanT{written(0, 8)}}, {scan(0, at(5), at(9)), []api.SpanT{from(6, 900)}}, {scan(0, at(5), at(9)), []api.SpanT{from(0, 6), from(8, 900)}},
		{get(0, key(0, 5)), []api.SpanT{from(5, 11), from(13, 900)}}, {put(0, at(5)), []api.SpanT{{Lo: key(0, 5), Hi: key(0, 5), Write: true}}}, {put(0, at(5)), []api.SpanT{written(6, 4)}},
	}
	for _, c := range bad {
		for _, store := range []*pages.Store{nil, some()} {
			for n := range 8 {
				l := slices.Repeat([]api.Instr{set(1, 9)}, 8)
				l[n] = c.x
				fails(t, call{with(code(l...), c.foot...), []int{7}, [4]int64{3, 4}, store, true}, api.ErrFoot, n)
				fails(t, call{with(code(l[:n+1]...), c.foot...), []int{7}, [4]int64{3, 4}, store, true}, api.ErrFoot, n)
			}
			// It doesn't, if its footprint isn't asked.
			x := call{with(code(c.x), c.foot...), []int{7}, [4]int64{3, 4}, store, false}
			want, _ := ran(x)
			if want.Code != api.OK {
				t.Fatal("the model of", x.told())
			}
			tells(t, x, want)
		}
	}
}

// TestRunOfAFootThatCovers: spans side by side cover what goes over both; what is written may be read.
func TestRunOfAFootThatCovers(t *testing.T) {
	for _, c := range []struct {
		s    api.Step
		want api.Outcome
	}{
		{with(code(scan(0, at(5), at(9))), from(8, 9), written(5, 7)), api.Outcome{Regs: [4]int64{3}, Reads: spans(5, 9)}},
		{with(code(get(0, at(5)), get(1, at(6))), written(5, 5), from(6, 6)), api.Outcome{Regs: [4]int64{51, 61}, Reads: spans(5, 6)}},
		{with(code(put(0, at(5)), take(at(6))), written(5, 5), written(6, 6)), api.Outcome{Writes: spans(5, 6), Changes: changes(valued(5, 0), gone(6))}},
		{with(code(put(0, at(5)), take(at(6))), from(5, 6), written(5, 6)), api.Outcome{Writes: spans(5, 6), Changes: changes(valued(5, 0), gone(6))}},
		{with(code(get(0, key(0, 0))), api.SpanT{Lo: key(0, 0), Hi: key(0, 0)}), api.Outcome{Regs: [4]int64{91}, Reads: spans(9, 9)}},
		{with(code(get(0, key(0, 0))), from(9, 9)), api.Outcome{Regs: [4]int64{91}, Reads: spans(9, 9)}},
		{with(code(get(0, at(9))), api.SpanT{Lo: key(0, 0), Hi: key(0, 0)}), api.Outcome{Regs: [4]int64{91}, Reads: spans(9, 9)}},
		// A scan of no keys reads none.
		{code(scan(0, at(6), at(5))), api.Outcome{}},
		{code(scan(0, at(900), key(0, 0)), scan(1, at(1), at(0))), api.Outcome{}},
		{with(code(scan(0, at(9), at(5))), from(6, 6)), api.Outcome{}},
	} {
		tells(t, call{c.s, []int{9}, [4]int64{}, some(), true}, c.want)
	}
}

// TestRunOfSums has sums and differences at the ends, and beyond them.
func TestRunOfSums(t *testing.T) {
	const lo, hi = math.MinInt64, math.MaxInt64
	for _, c := range []struct {
		x    api.Instr
		b, c int64
		want int64
		code api.Errno
	}{
		{add(2, 0, 1), hi, 0, hi, api.OK}, {add(2, 0, 1), hi - 1, 1, hi, api.OK}, {add(2, 0, 1), 1, hi - 1, hi, api.OK}, {add(2, 0, 1), hi, 1, 0, api.ErrOver}, {add(2, 0, 1), 1, hi, 0, api.ErrOver}, {add(2, 0, 1), hi, hi, 0, api.ErrOver}, {add(2, 0, 1), 1 << 62, 1 << 62, 0, api.ErrOver}, {add(2, 0, 1), 1 << 62, 1<<62 - 1, hi, api.OK},
		{add(2, 0, 1), lo, 0, lo, api.OK}, {add(2, 0, 1), lo + 1, -1, lo, api.OK}, {add(2, 0, 1), -1, lo + 1, lo, api.OK}, {add(2, 0, 1), lo, -1, 0, api.ErrOver}, {add(2, 0, 1), -1, lo, 0, api.ErrOver}, {add(2, 0, 1), lo, lo, 0, api.ErrOver}, {add(2, 0, 1), -1 << 62, -1 << 62, lo, api.OK}, {add(2, 0, 1), -1 << 62, -1<<62 - 1, 0, api.ErrOver},
		{add(2, 0, 1), lo, hi, -1, api.OK}, {add(2, 0, 1), hi, lo, -1, api.OK}, {add(2, 0, 1), 0, 0, 0, api.OK}, {add(2, 0, 1), -1, 1, 0, api.OK}, {add(2, 0, 1), 0, hi, hi, api.OK}, {add(2, 0, 1), 0, lo, lo, api.OK}, {add(2, 0, 1), lo, 1, lo + 1, api.OK}, {add(2, 0, 1), hi, -1, hi - 1, api.OK},
		{sub(2, 0, 1), lo, 0, lo, api.OK}, {sub(2, 0, 1), lo + 1, 1, lo, api.OK}, {sub(2, 0, 1), lo, 1, 0, api.ErrOver}, {sub(2, 0, 1), lo, hi, 0, api.ErrOver}, {sub(2, 0, 1), -1, hi, lo, api.OK}, {sub(2, 0, 1), -2, hi, 0, api.ErrOver}, {sub(2, 0, 1), lo, lo, 0, api.OK}, {sub(2, 0, 1), lo, -1, lo + 1, api.OK},
		{sub(2, 0, 1), hi, 0, hi, api.OK}, {sub(2, 0, 1), hi - 1, -1, hi, api.OK}, {sub(2, 0, 1), hi, -1, 0, api.ErrOver}, {sub(2, 0, 1), hi, lo, 0, api.ErrOver}, {sub(2, 0, 1), -1, lo, hi, api.OK}, {sub(2, 0, 1), 0, lo, 0, api.ErrOver}, {sub(2, 0, 1), 0, lo + 1, hi, api.OK}, {sub(2, 0, 1), hi, hi, 0, api.OK}, {sub(2, 0, 1), hi, 1, hi - 1, api.OK}, {sub(2, 0, 1), 0, hi, -hi, api.OK}, {sub(2, 0, 1), 0, 0, 0, api.OK},
	} {
		regs := [4]int64{c.b, c.c, 5, 6}
		for n := range 8 {
			l := append(slices.Repeat([]api.Instr{set(3, 6)}, n), c.x)
			if c.code == api.OK {
				does(t, code(l...), regs, some(), api.Outcome{Regs: [4]int64{c.b, c.c, c.want, 6}})
				continue
			}
			for _, x := range both(call{step: code(l...), regs: regs}) {
				fails(t, x, c.code, n)
			}
		}
	}
	// Of one register three times.
	does(t, code(add(0, 0, 0)), [4]int64{-1 << 62}, nil, api.Outcome{Regs: [4]int64{lo}})
	fails(t, call{step: code(add(0, 0, 0)), regs: [4]int64{1 << 62}}, api.ErrOver, 0)
	does(t, code(sub(0, 0, 0)), [4]int64{lo}, nil, api.Outcome{})
}

// TestRunOfAnySums holds sums and differences of numbers near the ends, and near 0, against the model.
func TestRunOfAnySums(t *testing.T) {
	rnd := rand.New(rand.NewSource(3))
	var seen balance
	for range 20000 {
		c := call{step: code(randomOf(rnd, add, sub)(2, 0, 1)), regs: [4]int64{anyNumber(rnd), anyNumber(rnd), 9}, store: nil}
		want, _ := ran(c)
		tells(t, c, want)
		seen.add(want.Code == api.OK)
	}
	seen.held(t, 2000)
}

// TestRunOfAGuard has registers at its number, one below and one above it.
func TestRunOfAGuard(t *testing.T) {
	for _, x := range []int64{math.MinInt64, math.MinInt64 + 1, -5, -1, 0, 1, 5, math.MaxInt64 - 1, math.MaxInt64} {
		for a := range 4 {
			// The other registers would be told the other way.
			regsOf := func(v, others int64) [4]int64 {
				regs := [4]int64{others, others, others, others}
				regs[a] = v
				return regs
			}
			for _, v := range []int64{x, max(x, x+1), math.MaxInt64} {
				regs := regsOf(v, math.MinInt64)
				does(t, code(guard(a, x)), regs, some(), api.Outcome{Regs: regs})
			}
			if x == math.MinInt64 {
				continue
			}
			for _, v := range []int64{x - 1, math.MinInt64} {
				for _, c := range both(call{step: code(guard(a, x)), regs: regsOf(v, math.MaxInt64), store: some()}) {
					fails(t, c, api.ErrGuard, 0)
				}
			}
		}
	}
	// It asks the register as it is by then.
	does(t, code(set(0, 5), guard(0, 5), set(0, 4)), [4]int64{}, nil, api.Outcome{Regs: [4]int64{4}})
	fails(t, call{step: code(guard(0, 5), set(0, 5)), regs: [4]int64{4}}, api.ErrGuard, 0)
	fails(t, call{step: code(set(0, 4), guard(0, 5)), regs: [4]int64{5}}, api.ErrGuard, 1)
}

// TestRunLeavesNothingBehindAFailure: what was put, taken out, read and set ahead isn't told, and isn't done.
func TestRunLeavesNothingBehindAFailure(t *testing.T) {
	ahead := []api.Instr{set(0, 9), put(0, at(5)), put(0, at(7)), take(at(6)), get(1, at(9)), scan(2, at(0), at(20)), set(3, math.MaxInt64)}
	for _, c := range []struct {
		x    api.Instr
		code api.Errno
	}{
		{guard(0, 10), api.ErrGuard}, {add(0, 3, 0), api.ErrOver}, {get(0, at(21)), api.ErrFoot}, {put(0, at(21)), api.ErrFoot}, {take(at(10)), api.ErrFoot}, {scan(0, at(0), at(21)), api.ErrFoot},
	} {
		for n := range ahead {
			l := append(slices.Clone(ahead[n:]), c.x)
			s := with(code(l...), from(0, 20), written(5, 7))
			regs := [4]int64{1, 2, 3, 4}
			if x, _ := ran(call{s, nil, regs, some(), true}); x.Code != c.code || x.At != len(l)-1 {
				t.Fatal("the model of", s, whole(x))
			}
			fails(t, call{s, nil, regs, some(), true}, c.code, len(l)-1)
		}
	}
	// The first one that fails tells, whatever stands behind it.
	s := code(set(0, math.MaxInt64), add(0, 0, 0), guard(1, 1), get(3, at(5)))
	fails(t, call{step: s, asked: true}, api.ErrOver, 1)
	s.Code[1], s.Code[2] = s.Code[2], s.Code[1]
	fails(t, call{step: s, asked: true}, api.ErrGuard, 1)
	s.Code[1], s.Code[3] = s.Code[3], s.Code[1]
	fails(t, call{step: s, asked: true}, api.ErrFoot, 1)
	fails(t, call{step: s}, api.ErrOver, 2)
}

// Any steps.

// balance counts how often something was so, and how often not.
type balance [2]int

// add counts one.
func (b *balance) add(so bool) {
	if so {
		b[1]++
	} else {
		b[0]++
	}
}

// held sees to it that both came about often enough.
func (b *balance) held(t *testing.T, least int) {
	t.Helper()
	if min(b[0], b[1]) < least {
		t.Error("what is tried is of one sort:", *b)
	}
}

// randomOf tells one of some things.
func randomOf[T any](rnd *rand.Rand, l ...T) T { return l[rnd.Intn(len(l))] }

// anyNumber tells any number, often one near the ends, or near 0.
func anyNumber(rnd *rand.Rand) int64 {
	return randomOf(rnd, math.MinInt64, math.MaxInt64, 0, 1<<62, -1<<62, int64(rnd.Uint64()), int64(rnd.Intn(10))) + int64(rnd.Intn(5)-2)
}

// anyKey tells any template that may be for so many arguments; few keys are told, so that many fall together.
func anyKey(rnd *rand.Rand, args int) api.KeyT {
	return key(rnd.Intn(args+1)-1, randomOf(rnd, 0, 1, 899, 900, rnd.Intn(12), rnd.Intn(12), rnd.Intn(12), rnd.Intn(901)))
}

// anyInstr tells any instruction that may be for so many arguments.
func anyInstr(rnd *rand.Rand, args int) api.Instr {
	a, k := rnd.Intn(4), anyKey(rnd, args)
	switch rnd.Intn(14) {
	case 0, 1:
		return get(a, k)
	case 2, 3, 4:
		return put(a, k)
	case 5, 6:
		return take(k)
	case 7, 8:
		return scan(a, k, anyKey(rnd, args))
	case 9:
		return scan(a, k, key(k.Arg, min(900, k.Base+rnd.Intn(9))))
	case 10:
		return set(a, anyNumber(rnd))
	case 11:
		return add(a, rnd.Intn(4), rnd.Intn(4))
	case 12:
		return sub(a, rnd.Intn(4), rnd.Intn(4))
	}
	return guard(a, randomOf(rnd, math.MinInt64, 0, anyNumber(rnd)))
}

// anyFoot tells any footprint that may be for so many arguments; the most of them are wide.
func anyFoot(rnd *rand.Rand, args int) []api.SpanT {
	l := []api.SpanT{{Lo: at(0), Hi: key(args-1, 900), Write: rnd.Intn(4) > 0}}
	if rnd.Intn(3) == 0 {
		l[0].Lo = anyKey(rnd, args)
	}
	for range rnd.Intn(4) {
		l = append(l, api.SpanT{Lo: anyKey(rnd, args), Hi: anyKey(rnd, args), Write: rnd.Intn(2) == 0})
	}
	if rnd.Intn(4) == 0 {
		return l[1:]
	}
	return l
}

// anyStore tells any store, of none, a few or many keys.
func anyStore(rnd *rand.Rand) *pages.Store {
	s := &pages.Store{}
	for range randomOf(rnd, 0, 1, 5, 20, 100) {
		s.Put(randomOf(rnd, 0, 999, rnd.Intn(20), rnd.Intn(1000)), anyNumber(rnd))
	}
	return s
}

// anyCall tells any call; the step, and the arguments, may be.
func anyCall(rnd *rand.Rand) call {
	n := rnd.Intn(4)
	c := call{store: anyStore(rnd), asked: rnd.Intn(2) == 0, step: api.Step{Foot: anyFoot(rnd, n)}}
	for range n {
		c.args = append(c.args, randomOf(rnd, 0, 99, rnd.Intn(5), rnd.Intn(100)))
	}
	for range rnd.Intn(9) {
		c.step.Code = append(c.step.Code, anyInstr(rnd, n))
	}
	for i := range c.regs {
		c.regs[i] = anyNumber(rnd)
	}
	return c
}

// turned tells a call of which one thing is another one, near the edges or far.
func turned(rnd *rand.Rand, c call) call {
	x := randomOf(rnd, append([]int{-2, -1, 0, 1, 3, 4, 5, 9, 99, 100, 900, 901}, far...)...)
	switch rnd.Intn(5) {
	case 0:
		c.args = append(slices.Clone(c.args), rnd.Intn(100))
	case 1:
		c.args = c.args[:len(c.args)/2]
	case 2:
		if len(c.args) > 0 {
			c.args[rnd.Intn(len(c.args))] = x
		}
	case 3:
		if n := len(c.step.Code); n > 0 {
			i := &c.step.Code[rnd.Intn(n)]
			*randomOf(rnd, &i.Op, &i.A, &i.B, &i.C, &i.K.Arg, &i.K.Base, &i.L.Arg, &i.L.Base) = x
		}
	case 4:
		if n := len(c.step.Foot); n > 0 {
			s := &c.step.Foot[rnd.Intn(n)]
			*randomOf(rnd, &s.Lo.Arg, &s.Lo.Base, &s.Hi.Arg, &s.Hi.Base) = x
		}
	}
	return c
}

// TestRunOfAny holds any steps against the model.
func TestRunOfAny(t *testing.T) {
	rnd := rand.New(rand.NewSource(4))
	seen := map[api.Errno]int{}
	for range 40000 {
		c := anyCall(rnd)
		if rnd.Intn(4) == 0 {
			c = turned(rnd, c)
		}
		want, _ := ran(c)
		tells(t, c, want)
		seen[want.Code]++
	}
	for _, e := range []api.Errno{api.OK, api.ErrArg, api.ErrGuard, api.ErrOver, api.ErrFoot} {
		if seen[e] < 1000 {
			t.Error("what is tried is of one sort:", seen)
		}
	}
}

// TestRunIsTheSameAgain: an answer hangs on nothing but what is handed in.
func TestRunIsTheSameAgain(t *testing.T) {
	rnd := rand.New(rand.NewSource(5))
	for range 2000 {
		c := anyCall(rnd)
		first := whole(c.run())
		anyCall(rnd).run()
		c.store = c.store.Copy()
		if again := whole(c.run()); again != first {
			t.Fatalf("Run of %s: %s, then %s", c.told(), first, again)
		}
	}
}

// P13.1: memory.

// roomy tells a list with spare room behind it, that has the last one's like in it.
func roomy[T any](l []T, behind T) []T {
	all := append(slices.Clone(l), behind, behind, behind)
	return all[:len(l)]
}

// TestRunLeavesWhatItIsGiven: lists, their spare room too, and the store's pages are as they were.
func TestRunLeavesWhatItIsGiven(t *testing.T) {
	rnd := rand.New(rand.NewSource(6))
	for range 3000 {
		c := anyCall(rnd)
		c.step.Code = roomy(c.step.Code, set(3, 12345))
		c.step.Foot = roomy(c.step.Foot, from(123, 45))
		c.args = roomy(c.args, 77)
		full := func() string {
			return fmt.Sprint(c.step.Code[:cap(c.step.Code)], c.step.Foot[:cap(c.step.Foot)], c.args[:cap(c.args)], c.told())
		}
		before := full()
		if c.run(); full() != before {
			t.Fatalf("Run changed %s: %s", before, full())
		}
	}
}

// TestRunTellsNewMemory: what is done to an answer, its spare room too, isn't seen in another one, or in what was handed in.
func TestRunTellsNewMemory(t *testing.T) {
	rnd := rand.New(rand.NewSource(7))
	for range 3000 {
		c := anyCall(rnd)
		before := c.told()
		a, b := c.run(), c.run()
		want := whole(b)
		spoil(a)
		if whole(b) != want || c.told() != before || whole(c.run()) != want {
			t.Fatalf("answers to %s share memory", before)
		}
		// No two lists of one answer share any.
		a, b = c.run(), c.run()
		spoil(did(a.Reads, nil))
		spoil(did(nil, b.Writes))
		if !slices.Equal(a.Writes, c.run().Writes) || !slices.Equal(b.Reads, c.run().Reads) {
			t.Fatalf("the answer to %s shares memory", before)
		}
	}
}

// spoil changes all that an outcome has, its spare room too.
func spoil(o api.Outcome) {
	for _, l := range [][]api.Span{o.Reads, o.Writes} {
		l = l[:cap(l)]
		for i := range l {
			l[i] = api.Span{Lo: -7, Hi: -7}
		}
	}
	l := o.Changes[:cap(o.Changes)]
	for i := range l {
		l[i] = api.Change{Key: -7, Value: -7}
	}
}

// TestRunKeepsNothing: what is done to lists that were handed in isn't seen in an answer.
func TestRunKeepsNothing(t *testing.T) {
	rnd := rand.New(rand.NewSource(8))
	for range 2000 {
		c := anyCall(rnd)
		o := c.run()
		want := whole(o)
		clear(c.step.Code)
		clear(c.step.Foot)
		clear(c.args)
		c.store.Put(3, 3)
		c.store.Delete(5)
		if whole(o) != want {
			t.Fatal("an answer shares memory with what was handed in:", want, whole(o))
		}
	}
}

// P13.2: Apply.

// applies sees to it that changes make of a store one that has these pairs.
func applies(t *testing.T, store *pages.Store, l []api.Change, want ...api.Pair) {
	t.Helper()
	before := fmt.Sprint(store.Scan(0, 999))
	kept := slices.Clone(l)
	if Apply(store, l); !slices.Equal(store.Scan(0, 999), want) {
		t.Errorf("Apply(%s, %v): %v, not %v", before, kept, store.Scan(0, 999), want)
	}
	if !slices.Equal(l, kept) {
		t.Errorf("Apply changed %v: %v", kept, l)
	}
}

// pair tells a pair.
func pair(k int, v int64) api.Pair { return api.Pair{Key: k, Value: v} }

func TestApply(t *testing.T) {
	applies(t, storeOf(5, 6), changes(valued(5, 7), gone(6), valued(9, 8)), pair(5, 7), pair(9, 8))
	// None.
	applies(t, storeOf(5, 6), nil, pair(5, 51), pair(6, 61))
	applies(t, storeOf(5, 6), changes(), pair(5, 51), pair(6, 61))
	applies(t, storeOf(), nil)
	// One behind the other.
	applies(t, storeOf(5), changes(valued(5, 1), valued(5, 2)), pair(5, 2))
	applies(t, storeOf(), changes(valued(5, 2), valued(5, 1)), pair(5, 1))
	applies(t, storeOf(5), changes(valued(5, 1), gone(5)))
	applies(t, storeOf(), changes(valued(5, 1), gone(5)))
	applies(t, storeOf(5), changes(gone(5), valued(5, 1)), pair(5, 1))
	applies(t, storeOf(), changes(gone(5), valued(5, 1)), pair(5, 1))
	applies(t, storeOf(5), changes(gone(5), gone(5)))
	// Keys that aren't there.
	applies(t, storeOf(5), changes(gone(4), gone(6), gone(0), gone(999)), pair(5, 51))
	applies(t, storeOf(), changes(gone(4)))
	// Falling keys, the first one and the last one.
	applies(t, storeOf(0, 999), changes(valued(999, 1), valued(500, 2), gone(0)), pair(500, 2), pair(999, 1))
	applies(t, storeOf(0, 999), changes(valued(0, math.MinInt64), gone(999)), pair(0, math.MinInt64))
	// A value of 0 is put; what is gone has none, whatever stands there.
	applies(t, storeOf(5, 6), changes(valued(5, 0), api.Change{Key: 6, Gone: true, Value: 4}), pair(5, 0))
}

// TestApplyOfNoKeys: what is no key is put nowhere, and what stands behind it is done.
func TestApplyOfNoKeys(t *testing.T) {
	for _, k := range append([]int{-2, -1, 1000, 1001}, far...) {
		applies(t, storeOf(0, 999), changes(valued(k, 7), valued(1, 7), gone(k), gone(0)), pair(1, 7), pair(999, 9991))
	}
	Apply(nil, nil)
	Apply(nil, changes(valued(5, 7), gone(5), gone(-1), valued(1000, 1)))
	zero := &pages.Store{}
	applies(t, zero, changes(valued(5, 7)), pair(5, 7))
}

// TestApplyOfPages: changes are made one behind the other, as a store puts and takes out, so that its pages are the same too.
func TestApplyOfPages(t *testing.T) {
	rnd := rand.New(rand.NewSource(9))
	for range 500 {
		a, b := &pages.Store{}, &pages.Store{}
		var l []api.Change
		for range rnd.Intn(200) {
			k, v := randomOf(rnd, -1, 1000, rnd.Intn(40), rnd.Intn(1000)), anyNumber(rnd)
			if rnd.Intn(3) == 0 {
				l = append(l, gone(k))
				b.Delete(k)
			} else {
				l = append(l, valued(k, v))
				b.Put(k, v)
			}
		}
		Apply(a, l)
		if !pages.Same(a, b) || !slices.Equal(a.Pages(), b.Pages()) {
			t.Fatalf("Apply of %v: %v, not %v", l, a.Scan(0, 999), b.Scan(0, 999))
		}
	}
}

// TestApplyOfOutcomes: of a store, an outcome's changes turn the keys that they tell, and no others.
func TestApplyOfOutcomes(t *testing.T) {
	rnd := rand.New(rand.NewSource(10))
	for range 5000 {
		c := anyCall(rnd)
		o := c.run()
		if o.Code != api.OK {
			continue
		}
		want := pairsOf(c.store)
		for _, x := range o.Changes {
			want[x.Key] = x.Value
			if x.Gone {
				delete(want, x.Key)
			}
		}
		after := c.store.Copy()
		Apply(after, o.Changes)
		if got := pairsOf(after); fmt.Sprint(got) != fmt.Sprint(want) {
			t.Fatalf("Apply of %v: %v, not %v", o.Changes, got, want)
		}
	}
}

// TestApplyLeavesTheList: its spare room too; and the store goes its own way from it.
func TestApplyLeavesTheList(t *testing.T) {
	l := roomy(changes(valued(5, 7), gone(6)), valued(8, 8))
	before := fmt.Sprint(l[:cap(l)])
	s := some()
	if Apply(s, l); fmt.Sprint(l[:cap(l)]) != before {
		t.Error("Apply changed", before, l[:cap(l)])
	}
	clear(l)
	if v, e := s.Get(5); v != 7 || e != api.OK || s.Len() != 4 {
		t.Error("a store shares memory with changes:", s.Scan(0, 999))
	}
}

// P13.3: Conflict.

// did tells an outcome that read and wrote these.
func did(reads, writes []api.Span) api.Outcome { return api.Outcome{Reads: reads, Writes: writes} }

// conflicts sees to it that two outcomes conflict, or don't, either way round, as the model says too.
func conflicts(t *testing.T, a, b api.Outcome, want bool) {
	t.Helper()
	if conflicting(a, b) != want {
		t.Fatal("the model of", whole(a), whole(b))
	}
	before := whole(a) + whole(b)
	if Conflict(a, b) != want || Conflict(b, a) != want {
		t.Errorf("Conflict(%s, %s), or the other way round: not %t", whole(a), whole(b), want)
	}
	if whole(a)+whole(b) != before {
		t.Error("Conflict changed", before)
	}
}

func TestConflict(t *testing.T) {
	one, two := spans(1, 5), spans(5, 6)
	// Reads with reads, reads with writes, writes with writes: of spans that have one key in common.
	conflicts(t, did(one, nil), did(two, nil), false)
	conflicts(t, did(one, nil), did(nil, two), true)
	conflicts(t, did(nil, one), did(two, nil), true)
	conflicts(t, did(nil, one), did(nil, two), true)
	conflicts(t, did(one, one), did(two, nil), true)
	conflicts(t, did(one, nil), did(two, two), true)
	// Of spans that touch.
	one = spans(1, 4)
	conflicts(t, did(one, one), did(two, two), false)
	conflicts(t, did(one, nil), did(nil, two), false)
	conflicts(t, did(nil, one), did(nil, two), false)
	// Of outcomes with themselves.
	conflicts(t, did(one, nil), did(one, nil), false)
	conflicts(t, did(one, two), did(one, two), true)
	conflicts(t, did(nil, one), did(nil, one), true)
	// Of none.
	conflicts(t, did(nil, nil), did(nil, nil), false)
	conflicts(t, api.Outcome{}, did(one, two), false)
	conflicts(t, did([]api.Span{}, nil), did(nil, one), false)
	// What the one reads and what it writes itself is no conflict.
	conflicts(t, did(one, one), did(two, nil), false)
	conflicts(t, did(one, two), did(spans(7, 7), spans(9, 9)), false)
}

// TestConflictAtTheEdges has the first key and the last one, and keys in the middle of spans.
func TestConflictAtTheEdges(t *testing.T) {
	for _, k := range []int{0, 1, 500, 998, 999} {
		conflicts(t, did(nil, spans(k, k)), did(spans(k, k), nil), true)
		conflicts(t, did(nil, spans(k, k)), did(spans(0, 999), nil), true)
		conflicts(t, did(nil, spans(k, k)), did(nil, spans(0, 999)), true)
		conflicts(t, did(nil, spans(0, 999)), did(spans(k, k), nil), true)
		conflicts(t, did(spans(k, k), nil), did(spans(0, 999), nil), false)
		conflicts(t, did(spans(0, 999), nil), did(spans(0, 999), nil), false)
	}
	conflicts(t, did(spans(0, 0, 999, 999), spans(10, 20, 30, 40)), did(spans(1, 9, 21, 29, 41, 998), spans(5, 5, 998, 998)), false)
	conflicts(t, did(spans(0, 0, 999, 999), spans(10, 20, 30, 40)), did(spans(1, 9, 21, 30, 41, 998), nil), true)
	conflicts(t, did(spans(0, 0, 999, 999), spans(10, 20, 30, 40)), did(nil, spans(999, 999)), true)
}

// TestConflictOfListsThatArentPlain: spans in any order, that overlap, and such as may not be, which have no keys.
func TestConflictOfListsThatArentPlain(t *testing.T) {
	conflicts(t, did(nil, spans(9, 9, 3, 5, 4, 8, 1, 1)), did(spans(20, 30, 6, 6), nil), true)
	conflicts(t, did(nil, spans(9, 9, 3, 5, 4, 8, 1, 1)), did(spans(20, 30, 2, 2), nil), false)
	for _, s := range [][]api.Span{spans(5, 4), spans(-1, 5), spans(5, 1000), spans(math.MinInt, math.MaxInt), spans(0, math.MaxInt), spans(-5, -5), spans(1000, 1000), spans(999, 0)} {
		conflicts(t, did(nil, s), did(spans(0, 999), spans(0, 999)), false)
		conflicts(t, did(s, s), did(s, s), false)
		conflicts(t, did(nil, append(s, api.Span{Lo: 5, Hi: 5})), did(append(spans(4, 5), s...), nil), true)
	}
}

// TestConflictAsksKeysAlone: neither errors, nor changes, nor registers make a difference.
func TestConflictAsksKeysAlone(t *testing.T) {
	a := api.Outcome{Code: api.ErrGuard, At: 3, Regs: [4]int64{1}, Reads: spans(5, 5), Changes: changes(valued(5, 1))}
	conflicts(t, a, a, false)
	a.Writes = spans(5, 5)
	conflicts(t, a, did(spans(5, 5), nil), true)
	conflicts(t, a, api.Outcome{Regs: a.Regs, Changes: a.Changes}, false)
}

func TestConflictOfAny(t *testing.T) {
	rnd := rand.New(rand.NewSource(11))
	behind := api.Span{Lo: 0, Hi: 999}
	list := func() []api.Span {
		var l []api.Span
		for range rnd.Intn(4) {
			lo := randomOf(rnd, -1, 0, 999, 1000, rnd.Intn(30), rnd.Intn(30), rnd.Intn(1000))
			l = append(l, api.Span{Lo: lo, Hi: lo + rnd.Intn(8) - 2})
		}
		return roomy(l, behind)
	}
	var seen balance
	for range 20000 {
		a, b := did(list(), list()), did(list(), list())
		conflicts(t, a, b, conflicting(a, b))
		seen.add(conflicting(a, b))
		for _, l := range [][]api.Span{a.Reads, a.Writes, b.Reads, b.Writes} {
			if l[:len(l)+1][len(l)] != behind {
				t.Fatal("Conflict changed spare room")
			}
		}
	}
	seen.held(t, 2000)
}

// TestConflictOfOutcomes: steps whose outcomes don't conflict may be done in either order.
func TestConflictOfOutcomes(t *testing.T) {
	rnd := rand.New(rand.NewSource(12))
	var seen balance
	for range 10000 {
		a, b := anyCall(rnd), anyCall(rnd)
		b.store = a.store
		x, y := a.run(), b.run()
		if x.Code != api.OK || y.Code != api.OK {
			continue
		}
		conflicts(t, x, y, conflicting(x, y))
		seen.add(Conflict(x, y))
		if !Conflict(x, y) {
			inOrder(t, a, b, x, y)
			inOrder(t, b, a, y, x)
		}
	}
	seen.held(t, 300)
}

// inOrder sees to it that b, done behind a, has the outcome that it has without.
func inOrder(t *testing.T, a, b call, x, y api.Outcome) {
	t.Helper()
	b.store = a.store.Copy()
	Apply(b.store, x.Changes)
	if o := b.run(); whole(o) != whole(y) {
		t.Fatalf("%s behind %s: %s, not %s", b.told(), a.told(), whole(o), whole(y))
	}
}

// P13.4: what follows.

// TestFootCoversWhatWasDone: what a step that was asked, and didn't fail, read and wrote; and a step fails with ErrFoot just if that isn't covered, and nothing else fails.
func TestFootCoversWhatWasDone(t *testing.T) {
	rnd := rand.New(rand.NewSource(13))
	var seen balance
	for range 30000 {
		c := anyCall(rnd)
		c.asked = false
		free := c.run()
		c.asked = true
		asked := c.run()
		covered := foot.Covers(c.step.Foot, c.args, free.Reads, free.Writes)
		if asked.Code == api.OK && !foot.Covers(c.step.Foot, c.args, asked.Reads, asked.Writes) {
			t.Fatalf("Run of %s: %s", c.told(), whole(asked))
		}
		if free.Code != api.OK {
			continue
		}
		seen.add(covered)
		if covered && whole(asked) != whole(free) || !covered && asked.Code != api.ErrFoot {
			t.Fatalf("Run of %s: %s, and, not asked, %s", c.told(), whole(asked), whole(free))
		}
	}
	seen.held(t, 2000)
}

// narrow tells a footprint of just the keys that are read and written, if there is one.
func narrow(reads, writes []api.Span) ([]api.SpanT, bool) {
	var l []api.SpanT
	for _, s := range reads {
		l = append(l, from(s.Lo, s.Hi))
	}
	for _, s := range writes {
		l = append(l, written(s.Lo, s.Hi))
	}
	return l, len(l) <= 4
}

// lacking tells spans without a key.
func lacking(l []api.Span, k int) []api.Span {
	s := setOf(l)
	s[k] = false
	return s.plain()
}

// edges tells the first key and the last one of each span, and one between.
func edges(rnd *rand.Rand, l []api.Span) []int {
	var all []int
	for _, s := range l {
		all = append(all, s.Lo, s.Hi, s.Lo+rnd.Intn(s.Hi-s.Lo+1))
	}
	return all
}

// TestNarrowFoot: a footprint that has just what is read and written covers a step.
func TestNarrowFoot(t *testing.T) {
	rnd := rand.New(rand.NewSource(14))
	covered, lacked := 0, 0
	for range 10000 {
		c := anyCall(rnd)
		c.asked = false
		o := c.run()
		l, ok := narrow(o.Reads, o.Writes)
		if o.Code != api.OK || !ok || !foot.May(l, len(c.args)) {
			continue
		}
		c.step.Foot, c.asked = l, true
		tells(t, c, o)
		covered++
		lacked += lacks(t, rnd, c, o)
	}
	if min(covered, lacked) < 2000 {
		t.Error("what is tried is of one sort:", covered, lacked)
	}
}

// lacks sees to it that a footprint that lacks one key of what a step reads or writes doesn't cover it, but where it has the key among those that are written; it tells how many don't.
func lacks(t *testing.T, rnd *rand.Rand, c call, o api.Outcome) int {
	t.Helper()
	n := 0
	is := func(code api.Errno, l []api.SpanT, may bool) {
		if !may {
			return
		}
		c.step.Foot = l
		want, _ := ran(c)
		if want.Code != code {
			t.Fatal("the model of", c.told())
		}
		tells(t, c, want)
		if code == api.ErrFoot {
			n++
		}
	}
	writes := setOf(o.Writes)
	for _, k := range edges(rnd, o.Reads) {
		code := api.ErrFoot
		if writes[k] {
			code = api.OK
		}
		l, may := narrow(lacking(o.Reads, k), o.Writes)
		is(code, l, may)
	}
	for _, k := range edges(rnd, o.Writes) {
		l, may := narrow(o.Reads, lacking(o.Writes, k))
		is(api.ErrFoot, l, may)
		l, may = narrow(append(spans(k, k), o.Reads...), lacking(o.Writes, k))
		is(api.ErrFoot, l, may)
	}
	return n
}

// TestStoresThatDifferElsewhere: over stores that have the same pairs among the keys that a step reads it has the same outcome, also one that fails.
func TestStoresThatDifferElsewhere(t *testing.T) {
	rnd := rand.New(rand.NewSource(15))
	seen := map[api.Errno]int{}
	for range 10000 {
		c := anyCall(rnd)
		want, reads := ran(c)
		other := c
		other.store = &pages.Store{}
		for k := range 1000 {
			if v, e := c.store.Get(k); e == api.OK && (reads[k] || rnd.Intn(2) == 0) {
				other.store.Put(k, v)
			}
			if !reads[k] && (k < 20 || k > 980) && rnd.Intn(2) == 0 {
				other.store.Put(k, anyNumber(rnd))
			}
		}
		tells(t, c, want)
		tells(t, other, want)
		seen[want.Code]++
	}
	for _, e := range []api.Errno{api.OK, api.ErrGuard, api.ErrOver, api.ErrFoot} {
		if seen[e] < 300 {
			t.Error("what is tried is of one sort:", seen)
		}
	}
	// Of the keys that a step writes, and doesn't read, it is told nothing.
	s := code(put(0, at(5)), take(at(6)))
	want := api.Outcome{Regs: [4]int64{7}, Writes: spans(5, 6), Changes: changes(valued(5, 7), gone(6))}
	for _, store := range []*pages.Store{nil, {}, storeOf(5), storeOf(6), storeOf(5, 6), some()} {
		does(t, s, [4]int64{7}, store, want)
	}
	// The pages of a store make no difference.
	a, b := &pages.Store{}, &pages.Store{}
	for k := range 40 {
		a.Put(k, 1)
		b.Put(39-k, 1)
	}
	if slices.Equal(a.Pages(), b.Pages()) {
		t.Fatal("the stores have the same pages")
	}
	for _, store := range []*pages.Store{a, b} {
		does(t, code(scan(0, at(3), at(50)), get(1, at(39))), [4]int64{}, store, api.Outcome{Regs: [4]int64{37, 1}, Reads: spans(3, 50)})
	}
}
