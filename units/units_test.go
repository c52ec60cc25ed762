package units

import (
	"fmt"
	"math"
	"math/rand"
	"slices"
	"strings"
	"testing"

	"gimmal/api"
	"gimmal/cat"
)

// The model: what the document's words say, done plainly, step by step, node by node and key by key.

// numbers tells of each step of the class c in which unit relative to the class d it is: there is one more behind each breakpoint.
func numbers(x api.Catalogue, c, d int) []int {
	all := make([]int, len(x.Classes[c].Steps))
	for i := range all[1:] {
		all[i+1] = all[i] + x.Breaks[c][d]>>i%2
	}
	return all
}

// there tells whether a catalogue that may be has a class.
func there(x api.Catalogue, c int) bool { return cat.May(x) && c >= 0 && c < len(x.Classes) }

// boundsOf tells the least and the greatest step that are in one unit with a step.
func boundsOf(x api.Catalogue, c, d, i int) (int, int, bool) {
	if !there(x, c) || !there(x, d) || i < 0 || i >= len(x.Classes[c].Steps) {
		return 0, 0, false
	}
	lo, hi := math.MaxInt, -1
	l := numbers(x, c, d)
	for k, u := range l {
		if u == l[i] {
			lo, hi = min(lo, k), max(hi, k)
		}
	}
	return lo, hi, true
}

// isOpen tells whether of any unit a step is done, and another one isn't.
func isOpen(x api.Catalogue, c, d, done int) bool {
	if !there(x, c) || !there(x, d) {
		return false
	}
	l := numbers(x, c, d)
	for i, u := range l {
		for k, v := range l {
			if u == v && i < done && k >= done {
				return true
			}
		}
	}
	return false
}

// sagaOf tells the nodes of a saga that has done so many steps, and of which so many are compensated: nothing but the steps and whether they are Back.
func sagaOf(done, backs int) []api.Node {
	var l []api.Node
	for i := range done {
		l = append(l, api.Node{Step: i})
	}
	for i := range backs {
		l = append(l, api.Node{Step: done - 1 - i, Back: true})
	}
	return l
}

// isSaga tells whether the nodes of one saga, of a class of so many steps, are those of any that there may be.
func isSaga(l []api.Node, steps int) bool {
	for done := 1; done <= steps; done++ {
		for backs := range done + 1 {
			same := func(a, b api.Node) bool { return a.Class == l[0].Class && a.Step == b.Step && a.Back == b.Back }
			if slices.EqualFunc(l, sagaOf(done, backs), same) {
				return true
			}
		}
	}
	return false
}

// spansMayBe tells whether a node's Reads, or its Writes, may be.
func spansMayBe(l []api.Span) bool {
	for _, s := range l {
		if s.Lo < 0 || s.Lo > s.Hi || s.Hi > 999 {
			return false
		}
	}
	return len(l) <= 40
}

// mayBeOf tells whether a history may be.
func mayBeOf(x api.Catalogue, h []api.Node) bool {
	if !cat.May(x) || len(h) > 100 {
		return false
	}
	sagas := map[int][]api.Node{}
	for _, n := range h {
		if n.Saga < 0 || !there(x, n.Class) || !spansMayBe(n.Reads) || !spansMayBe(n.Writes) {
			return false
		}
		sagas[n.Saga] = append(sagas[n.Saga], n)
	}
	for _, l := range sagas {
		if !isSaga(l, len(x.Classes[l[0].Class].Steps)) {
			return false
		}
	}
	return true
}

// unitOf tells the numbers of all nodes of the unit of a node of a history that may be.
func unitOf(x api.Catalogue, h []api.Node, i, d int) []int {
	if h[i].Back {
		return []int{i}
	}
	var all []int
	l := numbers(x, h[i].Class, d)
	for k, n := range h {
		if n.Saga == h[i].Saga && !n.Back && l[n.Step] == l[h[i].Step] {
			all = append(all, k)
		}
	}
	return all
}

// endsOf tells the first and the last node of the unit of a node; -1 without it.
func endsOf(x api.Catalogue, h []api.Node, i, d int) (int, int) {
	if !mayBeOf(x, h) || !there(x, d) || i < 0 || i >= len(h) {
		return -1, -1
	}
	all := unitOf(x, h, i, d)
	return slices.Min(all), slices.Max(all)
}

// keySet tells the keys of spans; one that may not be has none.
func keySet(l []api.Span) [1000]bool {
	var s [1000]bool
	for _, x := range l {
		for k := x.Lo; x.Lo >= 0 && x.Hi <= 999 && k <= x.Hi; k++ {
			s[k] = true
		}
	}
	return s
}

// inConflict tells whether two nodes conflict.
func inConflict(a, b api.Node) bool {
	readA, wroteA, readB, wroteB := keySet(a.Reads), keySet(a.Writes), keySet(b.Reads), keySet(b.Writes)
	for k := range 1000 {
		if wroteA[k] && (readB[k] || wroteB[k]) || wroteB[k] && (readA[k] || wroteA[k]) {
			return a.Saga != b.Saga
		}
	}
	return false
}

// What is asked.

// named tells a class of so many steps.
func named(name string, n int) api.Class {
	do := api.Step{Code: []api.Instr{{Op: api.OpSet, A: 1, X: 7}}}
	return api.Class{Name: name, Steps: slices.Repeat([]api.Step{do}, n), Comps: make([]api.Step, n)}
}

// steps tells a closed catalogue of classes of so many steps.
func steps(l ...int) api.Catalogue {
	var x api.Catalogue
	for i, n := range l {
		x.Classes = append(x.Classes, named(string(rune('a'+i)), n))
	}
	return x
}

// broken tells a catalogue with the breakpoints of a class to another one.
func broken(x api.Catalogue, c, d, b int) api.Catalogue {
	x.Breaks[c][d] = b
	return x
}

// shop tells a catalogue of classes of 4, 2, 1 and 3 steps: a to b has a breakpoint behind its step 1, a to c all, a to d behind 0; b to a one behind 0; d to a behind 1, d to itself all.
func shop() api.Catalogue {
	x := steps(4, 2, 1, 3)
	x.Breaks = [4][4]int{{0, 2, 7, 1}, {1, 0, 0, 0}, {}, {2, 0, 0, 3}}
	return x
}

// notCatalogues tells catalogues that may not be, each for one reason.
func notCatalogues() []api.Catalogue {
	l := []api.Catalogue{{}, steps(2, 2, 2, 2, 2), steps(4, 0), steps(4, 5)}
	twice, noName, noComp, noCode := steps(4, 2), steps(4, 2), steps(4, 2), steps(4, 2)
	twice.Classes[1].Name = "a"
	noName.Classes[1].Name = ""
	noComp.Classes[1].Comps = nil
	noCode.Classes[0].Steps[3].Code = nil
	l = append(l, twice, noName, noComp, noCode)
	return append(l, broken(steps(4, 2), 0, 0, 8), broken(steps(4, 2), 0, 1, -1), broken(steps(4, 2), 1, 0, 2), broken(steps(4, 2), 0, 2, 1), broken(steps(4, 2), 3, 1, 1))
}

// node tells a node of a word such as 12b0', the step 0 of the saga 12, of the class 1, that is compensated.
func node(word string) api.Node {
	var n api.Node
	var class, back rune
	fmt.Sscanf(word, "%d%c%d%c", &n.Saga, &class, &n.Step, &back)
	n.Class, n.Back = int(class-'a'), back == '\''
	return n
}

// hist tells the nodes of words.
func hist(words string) []api.Node {
	var l []api.Node
	for _, s := range strings.Fields(words) {
		l = append(l, node(s))
	}
	return l
}

// spans tells the spans of their ends.
func spans(ends ...int) []api.Span {
	var l []api.Span
	for e := range slices.Chunk(ends, 2) {
		l = append(l, api.Span{Lo: e[0], Hi: e[1]})
	}
	return l
}

// odd tells numbers that are no class, and no step, whatever the catalogue, and those around the ones that are.
func odd() []int {
	return []int{math.MinInt, math.MinInt + 1, -5, -1, 0, 1, 2, 3, 4, 5, 6, 63, 64, 65, math.MaxInt - 1, math.MaxInt}
}

// balance counts how often something was so, and how often it wasn't.
type balance struct{ yes, no int }

func (b *balance) add(so bool) {
	if so {
		b.yes++
	} else {
		b.no++
	}
}

// held sees to it that something was so often enough, and often enough wasn't.
func (b *balance) held(t *testing.T, least int) {
	t.Helper()
	if b.yes < least || b.no < least {
		t.Fatalf("the test asks too little: %d were so, %d weren't", b.yes, b.no)
	}
}

// eachCatalogue goes through catalogues of two classes with all breakpoints that the first one may have to itself, and to the second one.
func eachCatalogue(try func(x api.Catalogue)) {
	for n := 1; n <= 4; n++ {
		for m := 1; m <= 4; m++ {
			for own := range 1 << (n - 1) {
				for other := range 1 << (n - 1) {
					try(broken(broken(steps(n, m), 0, 0, own), 0, 1, other))
				}
			}
		}
	}
}

// P14.1: Bounds.

// bounds sees to it that a unit has these bounds, as the model says too.
func bounds(t *testing.T, x api.Catalogue, c, d, i, lo, hi int, ok bool) {
	t.Helper()
	if a, b, so := boundsOf(x, c, d, i); a != lo || b != hi || so != ok {
		t.Fatalf("the model of %d, %d, %d: %d, %d, %t", c, d, i, a, b, so)
	}
	if a, b, so := Bounds(x, c, d, i); a != lo || b != hi || so != ok {
		t.Errorf("Bounds(%v, %d, %d, %d): %d, %d, %t, not %d, %d, %t", x.Breaks, c, d, i, a, b, so, lo, hi, ok)
	}
}

// boundsAs sees to it that Bounds is as the model says.
func boundsAs(t *testing.T, x api.Catalogue, c, d, i int) {
	t.Helper()
	lo, hi, ok := boundsOf(x, c, d, i)
	bounds(t, x, c, d, i, lo, hi, ok)
}

func TestBounds(t *testing.T) {
	x := shop()
	for _, c := range [][5]int{
		{0, 0, 0, 0, 3}, {0, 0, 1, 0, 3}, {0, 0, 2, 0, 3}, {0, 0, 3, 0, 3},
		{0, 1, 0, 0, 1}, {0, 1, 1, 0, 1}, {0, 1, 2, 2, 3}, {0, 1, 3, 2, 3},
		{0, 2, 0, 0, 0}, {0, 2, 1, 1, 1}, {0, 2, 2, 2, 2}, {0, 2, 3, 3, 3},
		{0, 3, 0, 0, 0}, {0, 3, 1, 1, 3}, {0, 3, 2, 1, 3}, {0, 3, 3, 1, 3},
		// Of b to a, where a to b has others.
		{1, 0, 0, 0, 0}, {1, 0, 1, 1, 1}, {1, 1, 0, 0, 1}, {1, 1, 1, 0, 1},
		{2, 0, 0, 0, 0}, {2, 2, 0, 0, 0},
		{3, 0, 0, 0, 1}, {3, 0, 1, 0, 1}, {3, 0, 2, 2, 2}, {3, 3, 1, 1, 1}, {3, 1, 1, 0, 2},
	} {
		bounds(t, x, c[0], c[1], c[2], c[3], c[4], true)
	}
	// The chapter's example.
	bounds(t, broken(steps(3), 0, 0, 2), 0, 0, 0, 0, 1, true)
	bounds(t, broken(steps(3), 0, 0, 2), 0, 0, 2, 2, 2, true)
}

func TestBoundsOfOneBreakpoint(t *testing.T) {
	for at, l := range [][4][2]int{{{0, 0}, {1, 3}, {1, 3}, {1, 3}}, {{0, 1}, {0, 1}, {2, 3}, {2, 3}}, {{0, 2}, {0, 2}, {0, 2}, {3, 3}}} {
		for d := range 2 {
			x := broken(steps(4, 4), 0, d, 1<<at)
			for i, b := range l {
				bounds(t, x, 0, d, i, b[0], b[1], true)
				bounds(t, x, 0, 1-d, i, 0, 3, true)
				bounds(t, x, 1, d, i, 0, 3, true)
			}
		}
	}
}

func TestBoundsWithoutClassOrStep(t *testing.T) {
	for _, x := range []api.Catalogue{shop(), cat.Open(shop()), steps(4), steps(2, 1), cat.Open(steps(4, 4, 4, 4))} {
		for _, c := range odd() {
			for _, d := range odd() {
				for _, i := range odd() {
					boundsAs(t, x, c, d, i)
				}
			}
		}
	}
	for _, c := range [][3]int{{-1, 0, 0}, {4, 0, 0}, {0, -1, 0}, {0, 4, 0}, {0, 0, -1}, {0, 0, 4}, {1, 0, 2}, {2, 0, 1}, {3, 3, 3}} {
		bounds(t, shop(), c[0], c[1], c[2], 0, 0, false)
	}
	bounds(t, steps(4, 2), 0, 2, 0, 0, 0, false)
	bounds(t, steps(4, 2), 2, 0, 0, 0, 0, false)
}

// TestBoundsOfNoCatalogue: there are units of a catalogue that may be alone.
func TestBoundsOfNoCatalogue(t *testing.T) {
	for _, x := range notCatalogues() {
		for c := range 6 {
			for d := range 6 {
				for i := range 6 {
					bounds(t, x, c, d, i, 0, 0, false)
				}
			}
		}
	}
}

func TestBoundsOfEachCatalogue(t *testing.T) {
	eachCatalogue(func(x api.Catalogue) {
		for c := range 2 {
			for d := range 2 {
				for i := -1; i <= 4; i++ {
					boundsAs(t, x, c, d, i)
				}
			}
		}
	})
}

// P14.1: Open.

// open sees to it that a saga is inside a unit, or isn't, as the model says too.
func open(t *testing.T, x api.Catalogue, c, d, done int, want bool) {
	t.Helper()
	if isOpen(x, c, d, done) != want {
		t.Fatalf("the model of %d, %d, %d", c, d, done)
	}
	if Open(x, c, d, done) != want {
		t.Errorf("Open(%v, %d, %d, %d) isn't %t", x.Breaks, c, d, done, want)
	}
}

func TestOpen(t *testing.T) {
	x := shop()
	for _, c := range []struct {
		c, d int
		want []bool // of none done, of one, and so on
	}{
		{0, 0, []bool{false, true, true, true, false, false}},
		{0, 1, []bool{false, true, false, true, false, false}},
		{0, 2, []bool{false, false, false, false, false, false}},
		{0, 3, []bool{false, false, true, true, false, false}},
		{1, 0, []bool{false, false, false, false}},
		{1, 1, []bool{false, true, false, false}},
		{2, 2, []bool{false, false, false}},
		{3, 0, []bool{false, true, false, false, false}},
		{3, 3, []bool{false, false, false, false, false}},
		{3, 1, []bool{false, true, true, false, false}},
	} {
		for done, want := range c.want {
			open(t, x, c.c, c.d, done, want)
		}
		for _, done := range []int{math.MinInt, math.MinInt + 1, -5, -1, 6, 7, 63, 64, 65, math.MaxInt - 1, math.MaxInt} {
			open(t, x, c.c, c.d, done, false)
		}
	}
}

func TestOpenWithoutClass(t *testing.T) {
	for _, x := range []api.Catalogue{shop(), steps(4), steps(2, 1), cat.Closed(steps(4, 4, 4, 4))} {
		for _, c := range odd() {
			for _, d := range odd() {
				for _, done := range odd() {
					open(t, x, c, d, done, isOpen(x, c, d, done))
				}
			}
		}
	}
	for _, c := range [][2]int{{-1, 0}, {4, 0}, {0, -1}, {0, 4}} {
		open(t, shop(), c[0], c[1], 1, false)
	}
	for _, x := range notCatalogues() {
		for c := range 6 {
			for done := range 6 {
				open(t, x, c, 0, done, false)
			}
		}
	}
}

func TestOpenOfEachCatalogue(t *testing.T) {
	var b balance
	eachCatalogue(func(x api.Catalogue) {
		for c := range 2 {
			for d := range 2 {
				for done := -1; done <= 6; done++ {
					open(t, x, c, d, done, isOpen(x, c, d, done))
					b.add(isOpen(x, c, d, done))
				}
			}
		}
	})
	b.held(t, 500)
}

// P14.2: May.

// may sees to it that a history may be, or may not, as the model says too.
func may(t *testing.T, x api.Catalogue, h []api.Node, want bool) {
	t.Helper()
	if mayBeOf(x, h) != want {
		t.Fatalf("the model of %v", h)
	}
	if May(x, h) != want {
		t.Errorf("May(%v) isn't %t", h, want)
	}
}

func TestMay(t *testing.T) {
	x := shop()
	for _, s := range []string{
		"", "0a0", "0b0", "0c0", "0d0", "7a0", "9223372036854775807a0",
		// One saga: each step in order.
		"0a0 0a1", "0a0 0a1 0a2", "0a0 0a1 0a2 0a3", "0c0 0c0'",
		// Compensated behind its last step, behind its first one, part of the way, and wholly.
		"0a0 0a0'", "0a0 0a1 0a1'", "0a0 0a1 0a1' 0a0'", "0a0 0a1 0a2 0a2'", "0a0 0a1 0a2 0a2' 0a1'", "0a0 0a1 0a2 0a2' 0a1' 0a0'",
		"0a0 0a1 0a2 0a3 0a3'", "0a0 0a1 0a2 0a3 0a3' 0a2'", "0a0 0a1 0a2 0a3 0a3' 0a2' 0a1'", "0a0 0a1 0a2 0a3 0a3' 0a2' 0a1' 0a0'",
		// Several that come in between, in any order of their numbers, of one class and of several.
		"3a0 1a0", "1a0 3a0 1a1 3a1", "3a0 1a0 3a0' 1a1", "5a0 7b0 5a1 5a2 5a2' 8c0 5a1' 7b1", "2b0 1b0 0b0 0b1 1b0' 2b1 2b1' 2b0'",
	} {
		may(t, x, hist(s), true)
	}
	may(t, x, nil, true)
	may(t, x, []api.Node{}, true)
	may(t, x, []api.Node{{}}, true)
}

func TestMayNot(t *testing.T) {
	x := shop()
	for _, s := range []string{
		// A first node that isn't the step 0, or that compensates.
		"0a1", "0a3", "0a0'", "0a1'", "0c0'",
		// One left out, one twice, one out of order.
		"0a0 0a2", "0a0 0a1 0a3", "0a0 0a3", "0a0 0a0", "0a0 0a1 0a1", "0a0 0a1 0a0", "0a1 0a0", "0a0 0a2 0a1", "0c0 0c0", "0a0 0a1 0a2 0a3 0a3", "0a0 0a1 0a2 0a3 0a0",
		// Compensates what wasn't done, or what was compensated already.
		"0a0 0a1'", "0a0 0a2'", "0a0 0a1 0a2'", "0a0 0a1 0a0'", "0a0 0a1 0a2 0a1'", "0a0 0a1 0a2 0a2' 0a0'", "0a0 0a1 0a2 0a3 0a3' 0a1'",
		"0a0 0a0' 0a0'", "0a0 0a1 0a1' 0a1'", "0a0 0a1 0a1' 0a0' 0a0'", "0a0 0a1 0a1' 0a0' 0a1'", "0a0 0a1 0a2 0a2' 0a1' 0a2'",
		// A step behind one that compensates.
		"0a0 0a0' 0a0", "0a0 0a0' 0a1", "0a0 0a1 0a1' 0a1", "0a0 0a1 0a1' 0a2", "0a0 0a1 0a1' 0a0", "0a0 0a1 0a1' 0a0' 0a0", "0a0 0a1 0a1' 0a0' 0a1", "0a0 0a1 0a2 0a2' 0a3", "0a0 0a1 0a2 0a2' 0a1' 0a2",
		// Of two classes.
		"0a0 0b1", "0a0 0b0", "0a0 0b0'", "0a0 0a0' 0b0'", "0a0 0a1 0a1' 0b0'", "0b0 0a1", "0a0 0a1 0d2", "0d0 0d1 0a2",
		// No step, or class, there is.
		"0a4", "0b2", "0c1", "0e0", "0a-1", "0a-1'", "0b0 0b1 0b2", "0c0 0c1", "0d0 0d1 0d2 0d3", "0a0 0a1 0a2 0a3 0a4", "0a0 0a0' 0a-1'", "-1a0", "-9223372036854775808a0",
		// Others that come in between change nothing of it, wherever they stand.
		"1a0 0a1", "1a0 0a0'", "1b0 0a0 1b1 0a0", "1a0 0a0 1a2", "1a0 0a0 0a1'", "0a0 1a0 0a1 1a1'  0a1' 1a1' 0a0' 1a0'", "0a0 -1a0", "1a0 0a0 1a0' 1a1", "2a0 1a0 0b0 2b1",
	} {
		may(t, x, hist(s), false)
	}
}

// of tells nodes of which each is the same, but for what change makes of it.
func of(n int, change func(i int, n *api.Node)) []api.Node {
	h := make([]api.Node, n)
	for i := range h {
		change(i, &h[i])
	}
	return h
}

func TestMayOfNumbers(t *testing.T) {
	for _, i := range odd() {
		for _, c := range []int{0, 1, 2, 3} {
			may(t, shop(), []api.Node{{Saga: i, Class: c}}, i >= 0)
			may(t, shop(), []api.Node{{Class: c, Step: i}}, i == 0)
			may(t, shop(), []api.Node{{Class: c}, {Class: c, Step: i}}, i == 1 && c != 2)
			may(t, shop(), []api.Node{{Class: c}, {Class: c, Step: i, Back: true}}, i == 0)
			may(t, shop(), []api.Node{{Class: c}, {Class: c, Back: true}, {Class: c, Step: i, Back: true}}, false)
		}
		may(t, shop(), []api.Node{{Class: i}}, i >= 0 && i <= 3)
		may(t, steps(2, 1), []api.Node{{Class: i}}, i >= 0 && i <= 1)
		may(t, shop(), []api.Node{{Class: 0}, {Class: i, Step: 1}}, i == 0)
		may(t, shop(), []api.Node{{Saga: 5}, {Saga: i, Step: 1}}, i == 5)
	}
}

// TestMayOfManyNodes: 100 may be, and no more.
func TestMayOfManyNodes(t *testing.T) {
	for _, c := range []struct {
		n    int
		want bool
	}{{99, true}, {100, true}, {101, false}, {102, false}, {1000, false}} {
		may(t, shop(), of(c.n, func(i int, n *api.Node) { n.Saga = i }), c.want)
		may(t, shop(), of(c.n, func(i int, n *api.Node) { n.Saga, n.Step = i/4, i%4 }), c.want)
		may(t, shop(), of(c.n, func(i int, n *api.Node) { n.Saga, n.Class, n.Back = i/2, 2, i%2 == 1 }), c.want)
		may(t, shop(), of(c.n, func(i int, n *api.Node) { n.Saga, n.Step = i%25, min(i/25, 3) }), c.want)
	}
	// The last one, too, must be one that may.
	for _, bad := range []api.Node{{Saga: 5}, {Saga: 100, Step: 1}, {Saga: -1}, {Saga: 100, Class: 4}, {Saga: 100, Reads: spans(5, 4)}, {Saga: 5, Back: true, Class: 1}} {
		h := of(100, func(i int, n *api.Node) { n.Saga = i })
		h[99] = bad
		may(t, shop(), h, false)
	}
}

// TestMayOfSpans: at most 40 of them, each of which may be, plain or not.
func TestMayOfSpans(t *testing.T) {
	one := func(l []api.Span, want bool) {
		t.Helper()
		for _, h := range [][]api.Node{{{Reads: l}}, {{Writes: l}}, {{Reads: l, Writes: l}}, {{Reads: l, Writes: spans(1, 2)}}, {{Reads: spans(1, 2), Writes: l}}} {
			may(t, shop(), h, want)
			back := slices.Clone(h)
			back[0].Back = true
			may(t, shop(), append(hist("1b0 0a0 1b1"), back...), want)
		}
	}
	for n, want := range map[int]bool{0: true, 1: true, 8: true, 39: true, 40: true, 41: false, 42: false, 80: false} {
		one(slices.Repeat(spans(5, 7), n), want)
		one(slices.Repeat(spans(5, 7, 0, 999), n)[:n], want)
	}
	for _, lo := range []int{math.MinInt, -1, 0, 1, 5, 998, 999, 1000, math.MaxInt} {
		for _, hi := range []int{math.MinInt, -1, 0, 1, 5, 998, 999, 1000, math.MaxInt} {
			so := lo >= 0 && lo <= hi && hi <= 999
			one(spans(lo, hi), so)
			one(spans(3, 4, lo, hi), so)
			one(spans(lo, hi, 3, 4), so)
		}
	}
	one(append(slices.Repeat(spans(1, 2), 39), spans(5, 4)...), false)
	for _, l := range [][]api.Span{nil, {}, spans(5, 7, 8, 9), spans(5, 7, 7, 9), spans(5, 7, 1, 2), spans(1, 9, 3, 4), spans(3, 3, 3, 3), spans(0, 999, 0, 0, 999, 999)} {
		one(l, true)
	}
}

// TestMayOfNoCatalogue: there are histories of a catalogue that may be alone.
func TestMayOfNoCatalogue(t *testing.T) {
	for _, x := range notCatalogues() {
		for _, s := range []string{"", "0a0", "0b0", "0a0 0a1", "0a0 0a0'", "0a0 1b0"} {
			may(t, x, hist(s), false)
			ends(t, x, hist(s), 0, 0, -1, -1)
		}
	}
}

// all goes through all lists of at most so many of some nodes.
func all(some []api.Node, most int, try func(h []api.Node)) {
	h := make([]api.Node, 0, most)
	var more func()
	more = func() {
		try(h)
		if len(h) == most {
			return
		}
		for _, n := range some {
			h = append(h, n)
			more()
			h = h[:len(h)-1]
		}
	}
	more()
}

// TestMayOfAllShortLists: one saga of three steps, and two sagas of one, or two, classes of two.
func TestMayOfAllShortLists(t *testing.T) {
	var b balance
	try := func(x api.Catalogue) func(h []api.Node) {
		return func(h []api.Node) {
			so := mayBeOf(x, h)
			b.add(so)
			if May(x, h) != so {
				t.Errorf("May(%v) isn't %t", h, so)
			}
		}
	}
	all(hist("0a0 0a1 0a2 0a0' 0a1' 0a2'"), 6, try(steps(3)))
	all(hist("0a0 0a1 0a0' 0a1' 1a0 1a1 1a0' 1a1'"), 5, try(steps(2)))
	all(hist("0a0 0a1 0a1' 0b0 0b1 0b1' 1a0 1a1 1a0' 1b0 1b1"), 4, try(steps(2, 2)))
	b.held(t, 200)
}

// P14.2: First and Last.

// ends sees to it that a unit has these first and last nodes, as the model says too.
func ends(t *testing.T, x api.Catalogue, h []api.Node, i, d, first, last int) {
	t.Helper()
	if a, b := endsOf(x, h, i, d); a != first || b != last {
		t.Fatalf("the model of %v, %d, %d: %d, %d", h, i, d, a, b)
	}
	if a, b := First(x, h, i, d), Last(x, h, i, d); a != first || b != last {
		t.Errorf("of %v, %d, %d: %d, %d, not %d, %d", h, i, d, a, b, first, last)
	}
}

// endsAs sees to it that First and Last of all nodes relative to all classes are as the model says.
func endsAs(t *testing.T, x api.Catalogue, h []api.Node) {
	t.Helper()
	for i := -1; i <= len(h); i++ {
		for d := -1; d <= len(x.Classes); d++ {
			first, last := endsOf(x, h, i, d)
			ends(t, x, h, i, d, first, last)
		}
	}
}

func TestFirstAndLast(t *testing.T) {
	x := shop()
	for _, c := range []struct {
		h    string
		d    int
		want [][2]int // of each node
	}{
		{"0a0", 0, [][2]int{{0, 0}}}, {"0a0", 2, [][2]int{{0, 0}}},
		// Others come in between.
		{"0a0 1b0 0a1 2c0 1b1 0a2 0a3 3c0", 0, [][2]int{{0, 6}, {1, 1}, {0, 6}, {3, 3}, {4, 4}, {0, 6}, {0, 6}, {7, 7}}},
		{"0a0 1b0 0a1 2c0 1b1 0a2 0a3 3c0", 1, [][2]int{{0, 2}, {1, 4}, {0, 2}, {3, 3}, {1, 4}, {5, 6}, {5, 6}, {7, 7}}},
		{"0a0 1b0 0a1 2c0 1b1 0a2 0a3 3c0", 2, [][2]int{{0, 0}, {1, 4}, {2, 2}, {3, 3}, {1, 4}, {5, 5}, {6, 6}, {7, 7}}},
		{"0a0 1b0 0a1 2c0 1b1 0a2 0a3 3c0", 3, [][2]int{{0, 0}, {1, 4}, {2, 6}, {3, 3}, {1, 4}, {2, 6}, {2, 6}, {7, 7}}},
		// Only a part of a unit is in the history.
		{"1c0 0a0 2c0 0a1 3c0", 0, [][2]int{{0, 0}, {1, 3}, {2, 2}, {1, 3}, {4, 4}}},
		{"1c0 0a0 2c0 0a1 3c0 0a2", 1, [][2]int{{0, 0}, {1, 3}, {2, 2}, {1, 3}, {4, 4}, {5, 5}}},
		{"0d0 1d0 0d1 1d1 1d2", 0, [][2]int{{0, 2}, {1, 3}, {0, 2}, {1, 3}, {4, 4}}},
		// Sagas of one class, one behind the other and in between.
		{"0b0 1b0 1b1 0b1", 1, [][2]int{{0, 3}, {1, 2}, {1, 2}, {0, 3}}},
		{"0b0 0b1 1b0 1b1", 2, [][2]int{{0, 1}, {0, 1}, {2, 3}, {2, 3}}},
		// What compensates is a unit alone, and its saga's steps are in theirs as they were.
		{"0a0 0a1 0a2 1c0 0a2' 0a1' 2c0 0a0'", 0, [][2]int{{0, 2}, {0, 2}, {0, 2}, {3, 3}, {4, 4}, {5, 5}, {6, 6}, {7, 7}}},
		{"0a0 0a1 0a2 1c0 0a2' 0a1' 2c0 0a0'", 1, [][2]int{{0, 1}, {0, 1}, {2, 2}, {3, 3}, {4, 4}, {5, 5}, {6, 6}, {7, 7}}},
		{"0c0 0c0'", 0, [][2]int{{0, 0}, {1, 1}}},
		{"4b0 0c0 4b1 4b1' 0c0' 4b0'", 3, [][2]int{{0, 2}, {1, 1}, {0, 2}, {3, 3}, {4, 4}, {5, 5}}},
	} {
		h := hist(c.h)
		for i, want := range c.want {
			ends(t, x, h, i, c.d, want[0], want[1])
		}
		endsAs(t, x, h)
		endsAs(t, cat.Open(x), h)
		endsAs(t, cat.Closed(x), h)
	}
}

func TestFirstAndLastWithoutNodeOrClass(t *testing.T) {
	h := hist("0a0 1b0 0a1 1b1 0a1'")
	for _, i := range odd() {
		if i < 0 || i > 4 {
			ends(t, shop(), h, i, 0, -1, -1)
			ends(t, shop(), nil, i, 0, -1, -1)
			ends(t, shop(), h, 0, i, -1, -1)
			ends(t, shop(), h, 4, i, -1, -1)
		}
		ends(t, shop(), h, i, -1, -1, -1)
		ends(t, shop(), h, i, 4, -1, -1)
	}
	ends(t, shop(), nil, 0, 0, -1, -1)
	ends(t, steps(4, 2), h, 0, 2, -1, -1)
	ends(t, steps(4, 2), h, 4, 1, 4, 4)
	ends(t, steps(4, 2), h, 5, 1, -1, -1)
	ends(t, steps(4, 2), h, 4, 2, -1, -1)
}

// TestFirstAndLastOfNoHistory: of none of its nodes, if one of them may not be.
func TestFirstAndLastOfNoHistory(t *testing.T) {
	for _, s := range []string{"0a1", "0a0'", "0a0 0a2", "0a0 1a0 0a0", "0a0 0b1", "0a0 0a0' 0a0", "0a0 0a0' 0a-1'", "-1a0", "0e0", "0c0 1c1"} {
		for i := range hist(s) {
			for d := range 4 {
				ends(t, shop(), hist(s), i, d, -1, -1)
			}
		}
	}
	h := hist("0a0 1b0")
	h[1].Reads = spans(5, 4)
	ends(t, shop(), h, 0, 0, -1, -1)
	h[1].Reads, h[1].Writes = nil, slices.Repeat(spans(5, 5), 41)
	ends(t, shop(), h, 0, 0, -1, -1)
	h[1].Writes = h[1].Writes[1:]
	ends(t, shop(), h, 0, 0, 0, 0)
	many := of(101, func(i int, n *api.Node) { n.Saga, n.Step = i/4, i%4 })
	ends(t, shop(), many, 0, 0, -1, -1)
	ends(t, shop(), many, 100, 0, -1, -1)
	ends(t, shop(), many[:100], 97, 0, 96, 99)
	endsAs(t, shop(), many[:100])
}

// TestFirstAndLastOfEachCatalogue: two sagas that take turns, one of which is compensated.
func TestFirstAndLastOfEachCatalogue(t *testing.T) {
	eachCatalogue(func(x api.Catalogue) {
		n := len(x.Classes[0].Steps)
		var h []api.Node
		for i := range n {
			h = append(h, api.Node{Saga: 2, Step: i}, api.Node{Saga: 1, Step: i})
			endsAs(t, x, h)
		}
		for i := range n {
			h = append(h, api.Node{Saga: 2, Step: n - 1 - i, Back: true})
		}
		endsAs(t, x, append(h, api.Node{Saga: 5, Class: 1}))
	})
}

// anyCatalogue tells a catalogue that may be, with any breakpoints.
func anyCatalogue(rnd *rand.Rand) api.Catalogue {
	var l []int
	for range 1 + rnd.Intn(4) {
		l = append(l, 1+rnd.Intn(4))
	}
	x := steps(l...)
	for c := range l {
		for d := range l {
			x.Breaks[c][d] = rnd.Intn(1 << (l[c] - 1))
		}
	}
	return x
}

// anySpans tells a few spans that may be.
func anySpans(rnd *rand.Rand) []api.Span {
	var l []api.Span
	for range rnd.Intn(3) {
		lo := rnd.Intn(1000)
		l = append(l, api.Span{Lo: lo, Hi: min(lo+rnd.Intn(20), 999)})
	}
	return l
}

// anyHistory tells a history that may be, of at most so many nodes: sagas that go on one by one, and some are compensated.
func anyHistory(rnd *rand.Rand, x api.Catalogue, most int) []api.Node {
	var h []api.Node
	rest := map[int][]api.Node{}
	for range rnd.Intn(most + 1) {
		saga := rnd.Intn(8)
		if rest[saga] == nil {
			c := rnd.Intn(len(x.Classes))
			done := 1 + rnd.Intn(len(x.Classes[c].Steps))
			rest[saga] = sagaOf(done, rnd.Intn(done+1))
			for i := range rest[saga] {
				rest[saga][i].Class = c
			}
		}
		if len(rest[saga]) > 0 {
			n := rest[saga][0]
			n.Saga, n.Reads, n.Writes = saga, anySpans(rnd), anySpans(rnd)
			h = append(h, n)
			rest[saga] = rest[saga][1:]
		}
	}
	return h
}

// turned tells a history of which one thing is otherwise.
func turned(rnd *rand.Rand, h []api.Node) []api.Node {
	h = slices.Clone(h)
	if len(h) == 0 {
		return h
	}
	i, k := rnd.Intn(len(h)), rnd.Intn(len(h))
	switch rnd.Intn(8) {
	case 0:
		h[i].Saga += rnd.Intn(3) - 1
	case 1:
		h[i].Class += rnd.Intn(3) - 1
	case 2:
		h[i].Step += rnd.Intn(3) - 1
	case 3:
		h[i].Back = !h[i].Back
	case 4:
		h[i].Reads = append(slices.Clone(h[i].Reads), api.Span{Lo: rnd.Intn(3) - 1, Hi: 998 + rnd.Intn(3)})
	case 5:
		h[i], h[k] = h[k], h[i]
	case 6:
		h = slices.Delete(h, i, i+1)
	case 7:
		h = slices.Insert(h, i, h[k])
	}
	return h
}

func TestAnyHistory(t *testing.T) {
	rnd := rand.New(rand.NewSource(1))
	var b balance
	for range 4000 {
		x := anyCatalogue(rnd)
		h := anyHistory(rnd, x, 40)
		may(t, x, h, true)
		other := turned(rnd, h)
		may(t, x, other, mayBeOf(x, other))
		b.add(mayBeOf(x, other))
		i, d := rnd.Intn(len(h)+2)-1, rnd.Intn(len(x.Classes)+2)-1
		for _, l := range [][]api.Node{h, other} {
			first, last := endsOf(x, l, i, d)
			ends(t, x, l, i, d, first, last)
		}
	}
	b.held(t, 500)
	for range 150 {
		x := anyCatalogue(rnd)
		endsAs(t, x, anyHistory(rnd, x, 30))
	}
}

// P14.3: Conflict.

// conflicts sees to it that two nodes conflict, or don't, either way round, as the model says too; and that no two of one saga do.
func conflicts(t *testing.T, a, b api.Node, want bool) {
	t.Helper()
	if inConflict(a, b) != want {
		t.Fatalf("the model of %v, %v", a, b)
	}
	if Conflict(a, b) != want || Conflict(b, a) != want {
		t.Errorf("Conflict(%v, %v): %t, %t", a, b, Conflict(a, b), Conflict(b, a))
	}
	b.Saga = a.Saga
	if Conflict(a, b) || Conflict(b, a) || Conflict(a, a) {
		t.Errorf("of one saga: %v, %v", a, b)
	}
}

// did tells a node of a saga that has read, and written.
func did(saga int, reads, writes []api.Span) api.Node {
	return api.Node{Saga: saga, Reads: reads, Writes: writes}
}

func TestConflict(t *testing.T) {
	for _, c := range []struct {
		a, b []api.Span
		meet bool
	}{
		{nil, nil, false}, {spans(5, 7), nil, false}, {spans(), spans(5, 7), false},
		{spans(5, 7), spans(5, 7), true}, {spans(5, 7), spans(8, 9), false}, {spans(5, 7), spans(7, 9), true}, {spans(5, 7), spans(1, 4), false}, {spans(5, 7), spans(1, 5), true},
		{spans(1, 9), spans(3, 3), true}, {spans(0, 0), spans(0, 0), true}, {spans(999, 999), spans(999, 999), true}, {spans(0, 0), spans(999, 999), false}, {spans(0, 999), spans(500, 500), true},
		{spans(0, 499), spans(500, 999), false}, {spans(0, 500), spans(500, 999), true},
		// Lists that aren't plain.
		{spans(8, 9, 1, 2), spans(3, 7), false}, {spans(8, 9, 1, 3), spans(3, 7), true}, {spans(5, 6, 1, 9, 2, 3), spans(20, 30, 8, 8), true}, {spans(3, 3, 3, 3), spans(4, 4, 3, 3), true}, {spans(5, 7, 7, 9), spans(10, 11, 4, 4), false},
		// Spans that may not be have no keys.
		{spans(5, 4), spans(4, 5), false}, {spans(0, 1000), spans(0, 999), false}, {spans(-1, 5), spans(0, 5), false}, {spans(-1, -1), spans(-1, -1), false}, {spans(1000, 1000), spans(1000, 1000), false}, {spans(-1, 5, 7, 7), spans(0, 7), true},
	} {
		conflicts(t, did(1, c.a, nil), did(2, c.b, nil), false)
		conflicts(t, did(1, c.a, nil), did(2, nil, c.b), c.meet)
		conflicts(t, did(1, nil, c.a), did(2, c.b, nil), c.meet)
		conflicts(t, did(1, nil, c.a), did(2, nil, c.b), c.meet)
		// With others, that they have apart, beside them.
		conflicts(t, did(1, c.a, spans(600, 600)), did(2, c.b, spans(700, 700)), inConflict(did(1, c.a, spans(600, 600)), did(2, c.b, spans(700, 700))))
		conflicts(t, did(1, c.a, spans(100, 100)), did(2, spans(101, 101), c.b), inConflict(did(1, c.a, spans(100, 100)), did(2, spans(101, 101), c.b)))
	}
	// What both read, and what each writes alone, is none.
	conflicts(t, did(1, spans(5, 7), spans(8, 8)), did(2, spans(5, 7), spans(9, 9)), false)
	conflicts(t, did(1, spans(5, 7), spans(8, 8)), did(2, spans(5, 8), nil), true)
	conflicts(t, api.Node{}, api.Node{}, false)
}

// TestConflictOfTwoSagas: whatever else the nodes are.
func TestConflictOfTwoSagas(t *testing.T) {
	for _, a := range odd() {
		for _, b := range odd() {
			conflicts(t, did(a, spans(5, 5), nil), did(b, nil, spans(5, 5)), a != b)
			conflicts(t, did(a, nil, spans(5, 5)), did(b, nil, spans(6, 6)), false)
		}
		one, other := did(1, nil, spans(5, 5)), did(2, nil, spans(5, 5))
		one.Class, one.Step, one.Back = a, a, true
		conflicts(t, one, other, true)
		other.Class, other.Step, other.Back = a, a, true
		conflicts(t, one, other, true)
	}
}

func TestConflictOfLongLists(t *testing.T) {
	long := slices.Repeat(spans(1, 2, 5, 6, -1, 3), 100000)
	conflicts(t, did(1, long, nil), did(2, nil, long), true)
	conflicts(t, did(1, nil, long), did(2, nil, spans(3, 4, 7, 999)), false)
	conflicts(t, did(1, nil, append(long, spans(4, 4)...)), did(2, spans(3, 4, 7, 999), nil), true)
	conflicts(t, did(1, long, nil), did(2, long, nil), false)
}

func TestConflictOfAny(t *testing.T) {
	rnd := rand.New(rand.NewSource(2))
	few := func() []api.Span {
		var l []api.Span
		for range rnd.Intn(3) {
			lo := rnd.Intn(24) - 1
			l = append(l, api.Span{Lo: lo, Hi: lo + rnd.Intn(4) - 1})
		}
		return l
	}
	var b balance
	for range 8000 {
		x, y := did(rnd.Intn(3), few(), few()), did(rnd.Intn(3), few(), few())
		b.add(inConflict(x, y))
		conflicts(t, x, y, inConflict(x, y))
	}
	b.held(t, 500)
}

// P14.4: units have each step of a class once; closed, a class is one unit; open, each step is one.

// units tells the units of a class relative to another one, each by its first and last steps.
func units(t *testing.T, x api.Catalogue, c, d int) [][2]int {
	t.Helper()
	var l [][2]int
	for i := range x.Classes[c].Steps {
		lo, hi, ok := Bounds(x, c, d, i)
		if !ok || lo > i || i > hi {
			t.Fatalf("the step %d isn't in its unit: %d, %d", i, lo, hi)
		}
		if u := [2]int{lo, hi}; len(l) == 0 || l[len(l)-1] != u {
			l = append(l, u)
		}
	}
	return l
}

func TestUnitsHaveEachStepOnce(t *testing.T) {
	eachCatalogue(func(x api.Catalogue) {
		for c := range 2 {
			for d := range 2 {
				next, points := 0, 0
				for _, u := range units(t, x, c, d) {
					if u[0] != next {
						t.Errorf("a unit of %v begins at %d, not %d", x.Breaks, u[0], next)
					}
					next = u[1] + 1
					if cat.Break(x, c, d, u[1]) {
						points++
					}
				}
				if next != len(x.Classes[c].Steps) || points != len(units(t, x, c, d))-1 {
					t.Errorf("the units of %v end at %d, %d breakpoints", x.Breaks, next, points)
				}
			}
		}
	})
}

func TestUnitsOfOpenAndClosed(t *testing.T) {
	eachCatalogue(func(x api.Catalogue) {
		for c := range 2 {
			for d := range 2 {
				n := len(x.Classes[c].Steps)
				if l := units(t, cat.Closed(x), c, d); !slices.Equal(l, [][2]int{{0, n - 1}}) {
					t.Errorf("closed, %d steps: %v", n, l)
				}
				if l := units(t, cat.Open(x), c, d); len(l) != n || l[0] != [2]int{0, 0} || l[n-1] != [2]int{n - 1, n - 1} {
					t.Errorf("open, %d steps: %v", n, l)
				}
				for done := -1; done <= n+1; done++ {
					open(t, cat.Closed(x), c, d, done, done > 0 && done < n)
					open(t, cat.Open(x), c, d, done, false)
				}
			}
		}
	})
}

// TestUnitsOfNodesHaveEachNodeOnce: each node is in its own unit, and all nodes of a unit have one first and one last node.
func TestUnitsOfNodesHaveEachNodeOnce(t *testing.T) {
	rnd := rand.New(rand.NewSource(3))
	for range 200 {
		x := anyCatalogue(rnd)
		h := anyHistory(rnd, x, 40)
		for d := range x.Classes {
			for i, n := range h {
				first, last := First(x, h, i, d), Last(x, h, i, d)
				if first > i || i > last || h[first].Saga != n.Saga || h[last].Saga != n.Saga {
					t.Fatalf("the node %d of %v: %d, %d", i, h, first, last)
				}
				for k, m := range h {
					in := m.Saga == n.Saga && first <= k && k <= last
					if one := First(x, h, k, d) == first && Last(x, h, k, d) == last; one != in {
						t.Fatalf("the nodes %d and %d of %v", i, k, h)
					}
				}
			}
		}
	}
}

// What is handed in is left as it was, its spare room too, and nothing is kept.

// roomy tells a history whose lists all have more behind them, spare.
func roomy() []api.Node {
	h := hist("5a0 7b0 5a1 5a2 5a2' 8c0 5a1' 7b1 9a0 9a2")
	for i := range h {
		h[i].Reads = spans(8, 9, 1, 5, 5, 6, 77, 78, 3, 3)[:3+i%2]
		h[i].Writes = spans(20, 22, 4, 6, 6, 6, 1, 2)[:2]
	}
	return h
}

// behind tells a text of a history, with all that stands in its spare room.
func behind(h []api.Node) string {
	h = slices.Clone(h[:cap(h)])
	for i := range h {
		h[i].Reads, h[i].Writes = h[i].Reads[:cap(h[i].Reads)], h[i].Writes[:cap(h[i].Writes)]
	}
	return fmt.Sprint(h)
}

func TestWhatIsHandedInIsLeftAsItWas(t *testing.T) {
	room, was, x := roomy(), behind(roomy()), shop()
	h := room[:8]
	for range 2 {
		may(t, x, h, true)
		may(t, x, room, false)
		endsAs(t, x, h)
		for _, a := range h {
			for _, b := range h {
				conflicts(t, a, b, inConflict(a, b))
			}
		}
		boundsAs(t, x, 0, 1, 1)
		open(t, x, 0, 1, 1, true)
	}
	if behind(room) != was {
		t.Errorf("changed: %s, not %s", behind(room), was)
	}
	if fmt.Sprint(x) != fmt.Sprint(shop()) {
		t.Errorf("changed: %v", x)
	}
}

// TestTheSameAgain: nothing is kept from call to call.
func TestTheSameAgain(t *testing.T) {
	for range 3 {
		for _, x := range []api.Catalogue{shop(), cat.Closed(shop()), steps(4, 2, 1, 3), {}} {
			boundsAs(t, x, 0, 1, 2)
			open(t, x, 0, 1, 2, isOpen(x, 0, 1, 2))
			endsAs(t, x, hist("0a0 1b0 0a1 0a2 1b1"))
			endsAs(t, x, hist("0a0 1b0 0a2"))
		}
		h := hist("0a0 0a1")
		may(t, shop(), h, true)
		h[1].Step = 2
		may(t, shop(), h, false)
	}
}
