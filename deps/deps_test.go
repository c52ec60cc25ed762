package deps

import (
	"fmt"
	"math"
	"math/rand"
	"regexp"
	"slices"
	"strconv"
	"strings"
	"testing"

	"gimmal/api"
)

// The model: what the document's words say, done plainly, each span against each span and each node by way of each node.

// spansMeet tells whether two lists of spans have a key in common; a span that may not be has none.
func spansMeet(a, b []api.Span) bool {
	for _, s := range a {
		for _, o := range b {
			lo, hi := max(s.Lo, o.Lo), min(s.Hi, o.Hi)
			if s.Lo >= 0 && o.Lo >= 0 && s.Hi <= 999 && o.Hi <= 999 && lo <= hi {
				return true
			}
		}
	}
	return false
}

// inConflict tells whether two nodes conflict.
func inConflict(a, b api.Node) bool {
	one := spansMeet(a.Writes, b.Reads) || spansMeet(a.Writes, b.Writes) || spansMeet(a.Reads, b.Writes)
	return a.Saga != b.Saga && one
}

// dependsOf tells of each two nodes whether the first one depends on the second one, and whether it does so directly.
func dependsOf(h []api.Node) (all, direct [][]bool) {
	for i := range h {
		all, direct = append(all, make([]bool, len(h))), append(direct, make([]bool, len(h)))
		for k := range i {
			direct[i][k] = h[i].Saga == h[k].Saga || inConflict(h[i], h[k])
			all[i][k] = direct[i][k]
		}
	}
	for m := range h {
		for i := range h {
			for k := range h {
				all[i][k] = all[i][k] || all[i][m] && all[m][k]
			}
		}
	}
	return all, direct
}

// listsOf tells of each node the numbers of those that are so, rising.
func listsOf(all [][]bool) [][]int {
	l := make([][]int, len(all))
	for i := range all {
		for k, so := range all[i] {
			if so {
				l[i] = append(l[i], k)
			}
		}
	}
	return l
}

// What is asked.

// spans tells the spans of their ends.
func spans(ends ...int) []api.Span {
	var l []api.Span
	for e := range slices.Chunk(ends, 2) {
		l = append(l, api.Span{Lo: e[0], Hi: e[1]})
	}
	return l
}

// did tells a node of a saga that has read, and written.
func did(saga int, reads, writes []api.Span) api.Node {
	return api.Node{Saga: saga, Reads: reads, Writes: writes}
}

var part = regexp.MustCompile(`([rw])(-?\d+)(?:-(-?\d+))?`)

// node tells a node of a word such as 2r5w6-7: of the saga 2, it has read 5, and written 6 and 7.
func node(word string) api.Node {
	first := part.FindStringIndex(word + "r0")[0]
	saga, err := strconv.Atoi(word[:first])
	if err != nil {
		panic(err)
	}
	n := api.Node{Saga: saga}
	for _, m := range part.FindAllStringSubmatch(word, -1) {
		lo, _ := strconv.Atoi(m[2])
		hi := lo
		if m[3] != "" {
			hi, _ = strconv.Atoi(m[3])
		}
		if m[1] == "r" {
			n.Reads = append(n.Reads, api.Span{Lo: lo, Hi: hi})
		} else {
			n.Writes = append(n.Writes, api.Span{Lo: lo, Hi: hi})
		}
	}
	return n
}

// hist tells the nodes of words.
func hist(words string) []api.Node {
	var l []api.Node
	for _, s := range strings.Fields(words) {
		l = append(l, node(s))
	}
	return l
}

// odd tells numbers that are no node of a short list, and some that are.
func odd() []int {
	return []int{math.MinInt, math.MinInt + 1, -100, -2, -1, 0, 1, 2, 99, 100, 101, 1 << 32, 1<<32 + 1, math.MaxInt - 1, math.MaxInt}
}

// numbers tells the numbers of all nodes of a list, those around them, and odd ones.
func numbers(h []api.Node) []int {
	l := odd()
	for i := -2; i < len(h)+3; i++ {
		l = append(l, i)
	}
	return l
}

// same tells whether two answers have the same lists.
func same(a, b [][]int) bool { return slices.EqualFunc(a, b, slices.Equal[[]int]) }

// as sees to it that Of, Direct, Depends and Apart of a list answer as the model does, and Add, too, of each node behind those ahead of it.
func as(t *testing.T, h []api.Node) {
	t.Helper()
	all, direct := dependsOf(h)
	want := listsOf(all)
	if l := Of(h); !same(l, want) {
		t.Fatalf("Of(%v): %v, not %v", h, l, want)
	}
	for _, i := range numbers(h) {
		for _, k := range numbers(h) {
			pair(t, h, i, k, all, direct)
		}
	}
	for i, n := range h {
		if l := Add(want[:i], h[:i], n); !same(l, want[:i+1]) {
			t.Fatalf("Add(%v, %v, %v): %v, not %v", want[:i], h[:i], n, l, want[:i+1])
		}
	}
}

// pair sees to it that what is asked of two numbers is as the model says.
func pair(t *testing.T, h []api.Node, i, k int, all, direct [][]bool) {
	t.Helper()
	both := i >= 0 && i < len(h) && k >= 0 && k < len(h)
	if got, want := Direct(h, i, k), both && direct[i][k]; got != want {
		t.Fatalf("Direct(%v, %d, %d): %t", h, i, k, got)
	}
	if got, want := Depends(h, i, k), both && all[i][k]; got != want {
		t.Fatalf("Depends(%v, %d, %d): %t", h, i, k, got)
	}
	if got, want := Apart(h, i, k), both && !all[i][k] && !all[k][i]; got != want {
		t.Fatalf("Apart(%v, %d, %d): %t", h, i, k, got)
	}
}

// lists tells an answer of a word for each node, such as - 0 0,1.
func lists(words string) [][]int {
	var all [][]int
	for _, w := range strings.Fields(words) {
		var l []int
		for _, s := range strings.Split(strings.TrimPrefix(w, "-"), ",") {
			if n, err := strconv.Atoi(s); err == nil {
				l = append(l, n)
			}
		}
		all = append(all, l)
	}
	return all
}

// cases tells lists of nodes, with which ones each node depends on directly, and which it depends on.
func cases() []struct{ h, direct, all string } {
	return []struct{ h, direct, all string }{
		{"", "", ""}, {"0", "-", "-"}, {"1r5w5", "-", "-"},
		// The chapter's example, and the one of its test.
		{"1w5 2r5 2w6 1r6", "- 0 1 0,2", "- 0 0,1 0,1,2"},
		{"1w5 2r5 3r5 2w6 3w7 1r6", "- 0 0 1 2 0,3", "- 0 0 0,1 0,2 0,1,3"},
		// Two nodes: of one saga, in conflict or not.
		{"1 1", "- 0", "- 0"}, {"1r5 1w5", "- 0", "- 0"}, {"1 2", "- -", "- -"},
		{"1w5 2r5", "- 0", "- 0"}, {"1r5 2w5", "- 0", "- 0"}, {"1w5 2w5", "- 0", "- 0"}, {"1r5 2r5", "- -", "- -"},
		{"1w5 2r6", "- -", "- -"}, {"1w5 2w6", "- -", "- -"}, {"1w1-5 2r5-9", "- 0", "- 0"}, {"1w1-5 2r6-9", "- -", "- -"},
		{"1w5 2r5 2r5", "- 0 0,1", "- 0 0,1"},
		// Nodes of one saga: next to one another, with others between, far apart.
		{"1 1 1", "- 0 0,1", "- 0 0,1"}, {"1 2 1", "- - 0", "- - 0"}, {"1 2 3 4 5 1", "- - - - - 0", "- - - - - 0"},
		{"1 2 1 2 1 2", "- - 0 1 0,2 1,3", "- - 0 1 0,2 1,3"},
		{"1 2 3 1 3 2", "- - - 0 2 1", "- - - 0 2 1"},
		// By way of one node, of several, and of a node of the own saga.
		{"1w5 2r5w6 3r6", "- 0 1", "- 0 0,1"},
		{"1w1 2r1w2 3r2w3 4r3w4 5r4", "- 0 1 2 3", "- 0 0,1 0,1,2 0,1,2,3"},
		{"1w5 2r5 2", "- 0 1", "- 0 0,1"}, {"1w5 2r5 2 2", "- 0 1 1,2", "- 0 0,1 0,1,2"},
		{"1w5 1 2r5", "- 0 0", "- 0 0"}, {"1 1w5 2r5", "- 0 1", "- 0 0,1"},
		{"1w5 2r5 3 2w6 3r6", "- 0 - 1 2,3", "- 0 - 0,1 0,1,2,3"},
		// Two ways to one node: through two others, and one of them the short way.
		{"1w5 2r5w6 3r5w7 4r6r7", "- 0 0 1,2", "- 0 0 0,1,2"},
		{"1w5 2r5w6 3r5r6", "- 0 0,1", "- 0 0,1"},
		{"1w5w6 2r5w7 3r6w8 4r7 4r8", "- 0 0 1 2,3", "- 0 0 0,1 0,1,2,3"},
		// A way that comes too late: what is behind a node brings it nothing.
		{"1w5 3r6 2r5w6", "- - 0,1", "- - 0,1"}, {"2r6 1w5 2w5", "- - 0,1", "- - 0,1"}, {"3r6 2r5w6 1w5", "- 0 1", "- 0 0,1"},
		{"1w5 2r6 3r5 3w6 2r7", "- - 0 1,2 1", "- - 0 0,1,2 1"},
		// What conflicts with nothing, ahead of all, between and behind.
		{"9 1w5 8r1-4 2r5 7w6-999", "- - - 1 -", "- - - 1 -"},
		// What all conflict with, behind and ahead.
		{"1w1 2w2 3w3 4w4 5r1-4", "- - - - 0,1,2,3", "- - - - 0,1,2,3"},
		{"5w1-4 1r1 2r2 3r3 4r4", "- 0 0 0 0", "- 0 0 0 0"},
		{"1w1 2w2 9w1-4 3w3 4w4", "- - 0,1 2 2", "- - 0,1 0,1,2 0,1,2"},
		// Of several spans, any may meet.
		{"1r1r2w3 2w9w8w2", "- 0", "- 0"}, {"1w1w3w5 2r2r4r6", "- -", "- -"}, {"1w9w1-3 2r4r7-9", "- 0", "- 0"},
		{"1r0-999 2r0-999 3w500", "- - 0,1", "- - 0,1"}, {"1w0 2r0 3w999 4r999 5r1-998", "- 0 - 2 -", "- 0 - 2 -"},
	}
}

// TestCases: the model, too, must say what stands there.
func TestCases(t *testing.T) {
	for _, c := range cases() {
		h, want := hist(c.h), lists(c.all)
		all, direct := dependsOf(h)
		if !same(listsOf(all), want) || !same(listsOf(direct), lists(c.direct)) || len(want) != len(h) {
			t.Fatalf("the model of %s: %v, %v", c.h, listsOf(all), listsOf(direct))
		}
		if l := Of(h); !same(l, want) {
			t.Errorf("Of(%s): %v, not %v", c.h, l, want)
		}
		as(t, h)
	}
}

// P15.1: Direct.

// TestDirectOfConflicts: two nodes of two sagas, either one ahead; and of one saga, whatever they have done.
func TestDirectOfConflicts(t *testing.T) {
	for _, c := range []struct {
		a, b []api.Span
		meet bool
	}{
		{nil, nil, false}, {spans(5, 7), nil, false}, {spans(), spans(5, 7), false},
		{spans(5, 7), spans(5, 7), true}, {spans(5, 7), spans(8, 9), false}, {spans(5, 7), spans(7, 9), true}, {spans(5, 7), spans(1, 4), false}, {spans(5, 7), spans(1, 5), true},
		{spans(1, 9), spans(3, 3), true}, {spans(0, 0), spans(0, 0), true}, {spans(999, 999), spans(999, 999), true}, {spans(0, 499), spans(500, 999), false}, {spans(0, 999), spans(500, 500), true},
		// Lists that aren't plain.
		{spans(8, 9, 1, 2), spans(3, 7), false}, {spans(8, 9, 1, 3), spans(3, 7), true}, {spans(3, 3, 3, 3), spans(4, 4, 3, 3), true},
		// Spans that may not be have no keys.
		{spans(5, 4), spans(4, 5), false}, {spans(0, 1000), spans(0, 999), false}, {spans(-1, 5), spans(0, 5), false}, {spans(-1, -1), spans(-1, -1), false}, {spans(1000, 1000), spans(1000, 1000), false},
		{spans(-1, 5, 7, 7), spans(0, 7), true}, {spans(7, 7, 5, 4), spans(4, 7), true}, {spans(math.MinInt, math.MaxInt), spans(math.MinInt, math.MaxInt), false},
	} {
		two := func(a, b api.Node, want bool) {
			t.Helper()
			for _, h := range [][]api.Node{{a, b}, {b, a}} {
				if Direct(h, 1, 0) != want || Depends(h, 1, 0) != want || Apart(h, 1, 0) == want || Apart(h, 0, 1) == want {
					t.Errorf("of %v: %t, %t, %t", h, Direct(h, 1, 0), Depends(h, 1, 0), Apart(h, 1, 0))
				}
				as(t, h)
				h[1].Saga = h[0].Saga
				if !Direct(h, 1, 0) || !Depends(h, 1, 0) || Apart(h, 1, 0) {
					t.Errorf("of one saga: %v", h)
				}
			}
		}
		two(did(1, c.a, nil), did(2, c.b, nil), false)
		two(did(1, c.a, nil), did(2, nil, c.b), c.meet)
		two(did(1, nil, c.a), did(2, c.b, nil), c.meet)
		two(did(1, nil, c.a), did(2, nil, c.b), c.meet)
	}
}

// TestDirectIsNotByWay: a node in between doesn't make it direct.
func TestDirectIsNotByWay(t *testing.T) {
	h := hist("1w5 2r5w6 3r6")
	if Direct(h, 2, 0) || !Depends(h, 2, 0) || !Direct(h, 2, 1) || !Direct(h, 1, 0) {
		t.Error("by way of a node")
	}
	h = hist("1w5 2r5 2 3w5")
	if Direct(h, 2, 0) || !Depends(h, 2, 0) || !Direct(h, 3, 0) || !Direct(h, 3, 1) || Direct(h, 3, 2) || Depends(h, 3, 2) {
		t.Error("by way of a node of the own saga")
	}
}

// TestWithoutTheseNodes: of numbers below, beyond and alike.
func TestWithoutTheseNodes(t *testing.T) {
	for _, s := range []string{"", "1w5", "1w5 1w5", "1w5 2w5", "1w5 2r6", "1w5 2w5 1w5", "1r5 2r5 3r5"} {
		h := hist(s)
		for _, i := range numbers(h) {
			if Direct(h, i, i) || Depends(h, i, i) {
				t.Errorf("of %s, %d depends on itself", s, i)
			}
			if Apart(h, i, i) != (i >= 0 && i < len(h)) {
				t.Errorf("of %s, Apart of %d and %d: %t", s, i, i, Apart(h, i, i))
			}
			for _, k := range []int{math.MinInt, -2, -1, len(h), len(h) + 1, math.MaxInt} {
				if Direct(h, i, k) || Direct(h, k, i) || Depends(h, i, k) || Depends(h, k, i) || Apart(h, i, k) || Apart(h, k, i) {
					t.Errorf("of %s: %d and %d", s, i, k)
				}
			}
		}
		as(t, h)
	}
}

// TestBelow: nothing depends on what is behind it, of one saga or in conflict.
func TestBelow(t *testing.T) {
	h := hist("1w5 1w5 2w5 2w5")
	for i := range h {
		for k := i; k < len(h); k++ {
			if Direct(h, i, k) || Depends(h, i, k) || k > i && (!Direct(h, k, i) || !Depends(h, k, i) || Apart(h, i, k) || Apart(h, k, i)) {
				t.Errorf("%d and %d", i, k)
			}
		}
	}
}

// P15.1: Of.

// rise sees to it that lists are one for each node, and each one rises, of nodes ahead.
func rise(t *testing.T, h []api.Node, l [][]int) {
	t.Helper()
	if len(l) != len(h) {
		t.Fatalf("%d lists of %d nodes", len(l), len(h))
	}
	for i, on := range l {
		for j, k := range on {
			if k < 0 || k >= i || j > 0 && k <= on[j-1] {
				t.Fatalf("the node %d of %v: %v", i, h, on)
			}
		}
	}
}

func TestOfNone(t *testing.T) {
	if l := Of(nil); len(l) != 0 {
		t.Errorf("of nil: %v", l)
	}
	if l := Of([]api.Node{}); len(l) != 0 {
		t.Errorf("of none: %v", l)
	}
	if l := Of([]api.Node{{}}); len(l) != 1 || len(l[0]) != 0 {
		t.Errorf("of a zero node: %v", l)
	}
	if l := Of(make([]api.Node, 3)); !same(l, lists("- 0 0,1")) {
		t.Errorf("of three zero nodes: %v", l)
	}
}

// TestOfWhatDependsOnNothing: it has its list, too.
func TestOfWhatDependsOnNothing(t *testing.T) {
	for n := range 30 {
		h := make([]api.Node, n)
		for i := range h {
			h[i] = did(i, spans(5, 9), spans(100+i, 100+i))
		}
		l := Of(h)
		rise(t, h, l)
		for i := range l {
			if len(l[i]) != 0 {
				t.Errorf("the node %d: %v", i, l[i])
			}
		}
	}
}

// TestTwoWays: however many ways lead to a node, it is told once.
func TestTwoWays(t *testing.T) {
	for n := 1; n < 12; n++ {
		h := []api.Node{did(1, nil, spans(0, n))}
		var last []api.Span
		for i := range n {
			h = append(h, did(2+i, spans(i, i), spans(500+2*i, 500+2*i)))
			last = append(last, spans(500+2*i, 500+2*i)...)
		}
		h = append(h, did(90, last, nil))
		l := Of(h)
		rise(t, h, l)
		if len(l[n+1]) != n+1 || Direct(h, n+1, 0) || !Depends(h, n+1, 0) {
			t.Errorf("%d ways: %v", n, l[n+1])
		}
		as(t, h)
	}
}

// TestLongWay: each node depends on the one ahead alone directly, and so on all.
func TestLongWay(t *testing.T) {
	h := make([]api.Node, 130)
	for i := range h {
		h[i] = did(i, spans(max(i-1, 0), max(i-1, 0)), spans(i, i))
	}
	l := Of(h)
	rise(t, h, l)
	for i := range h {
		if len(l[i]) != i || !Depends(h, len(h)-1, i) && i < len(h)-1 {
			t.Fatalf("the node %d: %v", i, l[i])
		}
		if i > 1 && (Direct(h, i, i-2) || !Direct(h, i, i-1)) {
			t.Fatalf("the node %d: direct", i)
		}
	}
	// Without one node in the middle both halves stand alone.
	cut := slices.Delete(slices.Clone(h), 60, 61)
	if l := Of(cut); len(l[60]) != 0 || len(l[128]) != 68 || !Apart(cut, 128, 59) || Apart(cut, 128, 60) {
		t.Errorf("cut: %v, %v", l[60], l[128])
	}
}

// TestHistoriesThatMayNotBe: a list of nodes is asked nothing but sagas and keys.
func TestHistoriesThatMayNotBe(t *testing.T) {
	h := hist("1w5 2r5 3r5 2w6 3w7 1r6 4r9 4")
	want := lists("- 0 0 0,1 0,2 0,1,3 - 6")
	for _, o := range odd() {
		for _, back := range []bool{false, true} {
			other := slices.Clone(h)
			for i := range other {
				other[i].Class, other[i].Step, other[i].Back = o, 7-i, back
				if i%2 == 0 {
					other[i].Class, other[i].Step = i-3, o
				}
			}
			if l := Of(other); !same(l, want) {
				t.Errorf("of class, step and back %d, %t: %v", o, back, l)
			}
			as(t, other)
		}
	}
	// Sagas of any number.
	for _, a := range odd() {
		for _, b := range odd() {
			as(t, []api.Node{did(a, spans(5, 5), nil), did(b, nil, spans(6, 6)), did(b, nil, spans(5, 5)), did(a, spans(6, 6), spans(-1, 5))})
		}
	}
	as(t, hist("-1w5 -2r5 -1 -2w6 0r6 -1r5"))
}

// TestMoreThanMayBe: more nodes than 100, and more spans than 40.
func TestMoreThanMayBe(t *testing.T) {
	h := make([]api.Node, 150)
	for i := range h {
		h[i] = did(i%50, spans(i, i+1), spans(2*i, 2*i))
	}
	all, _ := dependsOf(h)
	if l := Of(h); !same(l, listsOf(all)) {
		t.Errorf("of %d nodes: %v", len(h), l)
	}
	long := slices.Repeat(spans(1, 2, 5, 6, -1, 3, 9, 8), 20000)
	two := []api.Node{did(1, long, nil), did(2, long, spans(3, 4, 7, 999)), did(3, nil, append(slices.Clone(long), spans(7, 7)...)), did(4, spans(1000, 1000, 0, 0), spans(3, 4))}
	if l := Of(two); !same(l, lists("- - 0,1 1")) {
		t.Errorf("of long lists: %v", l)
	}
	if !Direct(two, 2, 0) || !Direct(two, 2, 1) || Direct(two, 1, 0) || !Direct(two, 3, 1) || Direct(two, 3, 0) || Direct(two, 3, 2) {
		t.Error("of long lists: Direct")
	}
}

// P15.2 and P15.3, of any lists.

// anySpans tells a few spans of few keys, some of which may not be.
func anySpans(rnd *rand.Rand, keys int) []api.Span {
	var l []api.Span
	for range rnd.Intn(3) {
		lo := rnd.Intn(keys) - 1
		l = append(l, api.Span{Lo: lo, Hi: lo + rnd.Intn(4) - 1})
	}
	return l
}

// anyNodes tells any nodes of at most so many sagas, over so many keys.
func anyNodes(rnd *rand.Rand, n, sagas, keys int) []api.Node {
	h := make([]api.Node, n)
	for i := range h {
		h[i] = did(rnd.Intn(sagas)-1, anySpans(rnd, keys), anySpans(rnd, keys))
		h[i].Class, h[i].Step, h[i].Back = rnd.Intn(9)-2, rnd.Intn(9)-2, rnd.Intn(2) == 0
	}
	return h
}

func TestAnyNodes(t *testing.T) {
	rnd := rand.New(rand.NewSource(1))
	by, apart, direct := 0, 0, 0
	for range 400 {
		h := anyNodes(rnd, rnd.Intn(14), 1+rnd.Intn(10), 6+rnd.Intn(60))
		as(t, h)
		all, first := dependsOf(h)
		for i := range h {
			for k := range i {
				switch {
				case first[i][k]:
					direct++
				case all[i][k]:
					by++
				default:
					apart++
				}
			}
		}
	}
	if by < 1000 || apart < 1000 || direct < 1000 {
		t.Fatalf("the test asks too little: %d, %d, %d", direct, by, apart)
	}
	for range 12 {
		h := anyNodes(rnd, 60, 12, 300)
		all, _ := dependsOf(h)
		if l := Of(h); !same(l, listsOf(all)) {
			t.Errorf("Of(%v): %v", h, l)
		}
	}
}

// TestAllShortLists: all lists of at most four of nodes that have each kind of what there is between two.
func TestAllShortLists(t *testing.T) {
	some := hist("1w5 1r6 2r5 2w6 3r5w6 3")
	h := make([]api.Node, 0, 4)
	var more func()
	more = func() {
		as(t, h)
		for _, n := range some {
			if len(h) < cap(h) {
				h = append(h, n)
				more()
				h = h[:len(h)-1]
			}
		}
	}
	more()
}

// TestDependsOfParts: whether a node depends on another one hangs on what is from the one to the other alone.
func TestDependsOfParts(t *testing.T) {
	rnd := rand.New(rand.NewSource(2))
	for range 60 {
		h := anyNodes(rnd, 12, 6, 40)
		i := rnd.Intn(len(h))
		k := rnd.Intn(i + 1)
		want := Depends(h, i, k)
		if Depends(h[:i+1], i, k) != want || Depends(h[k:], i-k, 0) != want || Depends(h[k:i+1], i-k, 0) != want {
			t.Errorf("of %v: %d and %d", h, i, k)
		}
		if Apart(h, i, k) != Apart(h, k, i) || i != k && Apart(h, i, k) == want {
			t.Errorf("of %v: Apart of %d and %d", h, i, k)
		}
	}
}

// P15.3: Add.

// added sees to it that a node that is added has this list, and that the others stay as they are.
func added(t *testing.T, h []api.Node, n api.Node, want ...int) {
	t.Helper()
	l := Of(h)
	got := Add(l, h, n)
	if len(got) != len(h)+1 || !same(got[:len(h)], l) || !slices.Equal(got[len(h)], want) {
		t.Errorf("Add to %v of %v: %v, not %v", h, n, got, want)
	}
	if whole := Of(append(slices.Clone(h), n)); !same(got, whole) {
		t.Errorf("Add to %v of %v: %v, not %v", h, n, got, whole)
	}
}

func TestAdd(t *testing.T) {
	added(t, nil, api.Node{})
	added(t, nil, node("1w5"))
	added(t, []api.Node{}, node("1w5"))
	added(t, []api.Node{{}}, api.Node{}, 0)
	for _, c := range []struct {
		h, n string
		want []int
	}{
		{"1w5", "2", nil}, {"1w5", "2r6", nil}, {"1r5", "2r5", nil}, {"1w5", "2r5", []int{0}}, {"1r5", "2w5", []int{0}}, {"1w5", "2w5", []int{0}}, {"1", "1", []int{0}},
		{"1w5 2r5", "3", nil}, {"1w5 2r5", "3r5", []int{0}}, {"1w5 2r5w6", "3r6", []int{0, 1}}, {"1w5 2w6", "3r5-6", []int{0, 1}}, {"1w5 2w6", "2", []int{1}}, {"1w5 2w6", "2r5", []int{0, 1}},
		{"1w5 2r5 3r5 2w6 3w7", "1r6", []int{0, 1, 3}}, {"1w5 2r5 3r5 2w6 3w7", "4", nil}, {"1w5 2r5 3r5 2w6 3w7", "4r7", []int{0, 2, 4}}, {"1w5 2r5 3r5 2w6 3w7", "4r0-999", []int{0, 1, 2, 3, 4}},
		{"1w5 2r5 3r5 2w6 3w7", "4w5", []int{0, 1, 2}}, {"1w5 2r5 3r5 2w6 3w7", "3", []int{0, 2, 4}}, {"1w5 2r5 3r5 2w6 3w7", "0w8-999r0-4", nil},
		{"9 8 7 6", "5", nil}, {"9 8 7 6", "8", []int{1}}, {"9 8 7 6", "6r5", []int{3}},
	} {
		added(t, hist(c.h), node(c.n), c.want...)
	}
}

// TestAddOneByOne: a history that is told node by node, each time by what was told last.
func TestAddOneByOne(t *testing.T) {
	rnd := rand.New(rand.NewSource(3))
	for range 40 {
		h := anyNodes(rnd, 40, 8, 10+rnd.Intn(300))
		all, _ := dependsOf(h)
		var l [][]int
		for i, n := range h {
			l = Add(l, h[:i], n)
		}
		if !same(l, listsOf(all)) || !same(l, Of(h)) {
			t.Fatalf("of %v: %v", h, l)
		}
	}
}

// TestAddTakesWhatWasTold: of a history whose Of is handed in, each node is asked of the new one alone, not each two again (which takes memory for each).
func TestAddTakesWhatWasTold(t *testing.T) {
	h := make([]api.Node, 120)
	for i := range h {
		// Of each three, the second one reads what the first one wrote, the third one what the second one wrote.
		h[i] = did(i, spans(i-i%3, i-1), spans(i, i))
	}
	l, n := Of(h), did(len(h), spans(5, 5), nil)
	if got := Add(l, h, n); !slices.Equal(got[5], []int{3, 4}) || !slices.Equal(got[len(h)], []int{3, 4, 5}) {
		t.Fatalf("%v, %v", got[5], got[len(h)])
	}
	one := testing.AllocsPerRun(5, func() { Add(l, h, n) })
	if all := testing.AllocsPerRun(5, func() { Of(h) }); one > all/10 {
		t.Errorf("Add takes %f, Of %f", one, all)
	}
}

// TestAddOfListsThatMayNotBe: lists that can't be Of of the history are told anew.
func TestAddOfListsThatMayNotBe(t *testing.T) {
	h, n := hist("1w5 2r5 3r5 2w6"), node("4r6")
	want := lists("- 0 0 0,1 0,1,3")
	for _, l := range [][][]int{
		nil, {}, {nil}, lists("- 0"), lists("- 0 0"), lists("- 0 0 0,1 0,1,3"), make([][]int, 5), make([][]int, 3), make([][]int, 1000),
		// Below 0, itself, behind it, beyond.
		{nil, {-1}, {0}, {0, 1}}, {nil, {0}, {0}, {-1, 0, 1}}, {{-1}, {0}, {0}, {0, 1}}, {{0}, {0}, {0}, {0, 1}}, {nil, {1}, {0}, {0, 1}}, {nil, {0}, {0, 2}, {0, 1}}, {nil, {0}, {0}, {0, 1, 3}},
		{nil, {0}, {0, 3}, {0, 1}}, {nil, {0}, {0}, {0, 1, 4}}, {{math.MinInt}, {math.MaxInt}, {math.MinInt, 0}, {0, 1, math.MaxInt}}, {{3}, {0}, {0}, {0, 1}}, {nil, {0, 1}, {0}, {0, 1}},
		// Not rising, or twice.
		{nil, {0}, {0}, {1, 0}}, {nil, {0}, {0}, {0, 0, 1}}, {nil, {0, 0}, {0}, {0, 1}}, {nil, {0}, {0}, {0, 1, 1}}, {nil, {0}, {1, 0}, {0, 1}},
	} {
		if got := Add(l, h, n); !same(got, want) {
			t.Errorf("Add(%v): %v", l, got)
		}
	}
	for _, l := range [][][]int{nil, {}, {nil}, {{0}}, {nil, {0}}, {{5}, {-5}}} {
		if got := Add(l, nil, n); len(got) != 1 || len(got[0]) != 0 {
			t.Errorf("Add(%v) to none: %v", l, got)
		}
	}
}

// TestAddOfAnyLists: whatever is handed in, there is a list for each node, that rises, of nodes ahead.
func TestAddOfAnyLists(t *testing.T) {
	rnd := rand.New(rand.NewSource(4))
	for range 2000 {
		h := anyNodes(rnd, rnd.Intn(6), 4, 30)
		l := make([][]int, rnd.Intn(len(h)+2))
		for i := range l {
			for range rnd.Intn(4) {
				l[i] = append(l[i], rnd.Intn(len(h)+3)-1)
			}
			if rnd.Intn(2) == 0 {
				slices.Sort(l[i])
			}
		}
		n := anyNodes(rnd, 1, 4, 30)[0]
		got := Add(l, h, n)
		rise(t, append(slices.Clone(h), n), got)
	}
}

// P15.4.

func TestNoNodeDependsOnItselfOrOneBehind(t *testing.T) {
	rnd := rand.New(rand.NewSource(5))
	for range 60 {
		h := anyNodes(rnd, rnd.Intn(20), 5, 30)
		rise(t, h, Of(h))
		for i := range h {
			for k := i; k < len(h); k++ {
				if Depends(h, i, k) || Direct(h, i, k) {
					t.Errorf("of %v, %d depends on %d", h, i, k)
				}
			}
		}
	}
}

// lonely tells a saga's nodes, each with its keys, that no node of anyNodes has.
func lonely(saga int, n int) []api.Node {
	var l []api.Node
	for i := range n {
		l = append(l, did(saga, spans(900, 910), spans(900+i, 900+i)))
	}
	return l
}

// TestWhatConflictsWithNothing: a saga of which no node conflicts with any depends on its own nodes alone, and nothing else on them.
func TestWhatConflictsWithNothing(t *testing.T) {
	rnd := rand.New(rand.NewSource(6))
	for range 80 {
		h := anyNodes(rnd, rnd.Intn(20), 6, 40)
		for _, n := range lonely(77, 1+rnd.Intn(4)) {
			at := rnd.Intn(len(h) + 1)
			h = slices.Insert(h, at, n)
		}
		l := Of(h)
		var own []int
		for i, n := range h {
			if n.Saga == 77 {
				if !slices.Equal(l[i], own) {
					t.Errorf("of %v, %d: %v, not %v", h, i, l[i], own)
				}
				own = append(own, i)
			} else if slices.ContainsFunc(l[i], func(k int) bool { return h[k].Saga == 77 }) {
				t.Errorf("of %v, %d: %v", h, i, l[i])
			}
		}
	}
}

// TestNodeThatConflictsWithNothing: it depends directly on its own saga alone, else on what that depends on.
func TestNodeThatConflictsWithNothing(t *testing.T) {
	rnd := rand.New(rand.NewSource(7))
	for range 80 {
		h := anyNodes(rnd, 1+rnd.Intn(20), 6, 40)
		n := did(h[rnd.Intn(len(h))].Saga, nil, spans(900, 900))
		l := Of(h)
		on := map[int]bool{}
		for k := range h {
			own := h[k].Saga == n.Saga
			if Direct(append(slices.Clone(h), n), len(h), k) != own {
				t.Errorf("of %v and %v: %d", h, n, k)
			}
			if own {
				on[k] = true
				for _, j := range l[k] {
					on[j] = true
				}
			}
		}
		last := Add(l, h, n)[len(h)]
		if len(last) != len(on) || slices.ContainsFunc(last, func(k int) bool { return !on[k] }) {
			t.Errorf("of %v and %v: %v, not %v", h, n, last, on)
		}
	}
}

// What is handed in is left as it was, its spare room too; an answer is new memory; nothing is kept.

// roomy tells a history whose lists all have more behind them, spare.
func roomy() []api.Node {
	h := hist("1w5 2r5 3r5 2w6 3w7 1r6 4r9 4w5 1w1 2w2")
	for i := range h {
		r, w := len(h[i].Reads), len(h[i].Writes)
		h[i].Reads = append(h[i].Reads, spans(8, 9, 1, 5, 77, 78)...)[:r]
		h[i].Writes = append(h[i].Writes, spans(6, 6, 1, 2, 20, 22)...)[:w]
	}
	return h
}

// behind tells a text of a history, with all that stands in its spare room.
func behind(h []api.Node) string {
	h = slices.Clone(h[:cap(h)])
	for i := range h {
		h[i].Reads, h[i].Writes = h[i].Reads[:cap(h[i].Reads)], h[i].Writes[:cap(h[i].Writes)]
	}
	return fmt.Sprint(h)
}

// behindLists tells a text of lists, with all that stands in their spare room.
func behindLists(l [][]int) string {
	l = slices.Clone(l[:cap(l)])
	for i := range l {
		l[i] = l[i][:cap(l[i])]
	}
	return fmt.Sprint(l)
}

// roomyLists tells Of of a history, all with more behind them, spare.
func roomyLists(h []api.Node) [][]int {
	l := Of(h)
	for i := range l {
		l[i] = append(slices.Clone(l[i]), 55, 66, 77)[:len(l[i])]
	}
	return append(l, []int{88}, []int{99})[:len(h)]
}

func TestWhatIsHandedInIsLeftAsItWas(t *testing.T) {
	room, was := roomy(), behind(roomy())
	h := room[:8]
	l := roomyLists(h)
	listsWere := behindLists(l)
	for range 2 {
		as(t, h)
		as(t, room)
		Add(l, h, room[8])
		Add(l[:4], h[:4], room[9])
		Add(l[:3], h, room[9])
		Add(nil, h, node("1w5"))
	}
	if behind(room) != was {
		t.Errorf("changed: %s, not %s", behind(room), was)
	}
	if behindLists(l) != listsWere {
		t.Errorf("changed: %s, not %s", behindLists(l), listsWere)
	}
}

// fill writes a number over lists, their spare room too, and over that of the list of them.
func fill(l [][]int, with int) {
	for i := range l {
		on := l[i][:cap(l[i])]
		for k := range on {
			on[k] = with
		}
	}
	clear(l[len(l):cap(l)])
}

// TestAnswersAreNewMemory: what is told is changed afterwards, and nothing else changes by it.
func TestAnswersAreNewMemory(t *testing.T) {
	h, n := hist("1w5 2r5 3r5 2w6 3w7 1r6 4 4"), node("5r0-999")
	for _, l := range [][][]int{roomyLists(h), Of(h), nil} {
		was := behindLists(l)
		a, b := Add(l, h, n), Add(l, h, n)
		fill(a, -7)
		for i := range a {
			a[i] = nil
		}
		if behindLists(l) != was {
			t.Errorf("what was handed in has changed: %v", l)
		}
		if !same(b, Of(append(slices.Clone(h), n))) {
			t.Errorf("another answer has changed: %v", b)
		}
		fill(l, -8)
		if !same(b, Of(append(slices.Clone(h), n))) {
			t.Errorf("an answer has changed with what was handed in: %v", b)
		}
	}
	a, b := Of(h), Of(h)
	fill(a, -9)
	if !same(b, lists("- 0 0 0,1 0,2 0,1,3 - 6")) {
		t.Errorf("another answer has changed: %v", b)
	}
}

// TestListsShareNoMemory: what is done to a list of an answer, in its spare room too, changes no other one of it.
func TestListsShareNoMemory(t *testing.T) {
	h, n := hist("1w5 2r5 3r5 2w6 3w7 1r6 4 4"), node("5r0-999")
	one := []int{0, 55, 66}
	shared := [][]int{one[:0], one[:1], one[:1], {0, 1}, {0, 2}, {0, 1, 3}, one[:0], {6}}
	for i := range h {
		for _, tell := range []func() [][]int{
			func() [][]int { return Of(h) },
			func() [][]int { return Add(Of(h), h, n) },
			func() [][]int { return Add(shared, h, n) },
		} {
			l, want := tell(), tell()
			fill(l[i:i+1:i+1], -7)
			l[i] = append(l[i], -7)
			for k := range l {
				if k != i && !slices.Equal(l[k], want[k]) {
					t.Errorf("the list %d has changed with the list %d", k, i)
				}
			}
		}
	}
	if !slices.Equal(one, []int{0, 55, 66}) {
		t.Errorf("changed: %v", one)
	}
}

// TestTheSameAgain: nothing is kept from call to call.
func TestTheSameAgain(t *testing.T) {
	h := hist("1w5 2r5 3r5 2w6 3w7 1r6")
	for range 3 {
		as(t, h)
		as(t, hist("1w5 2r6"))
		h[1].Reads[0] = api.Span{Lo: 9, Hi: 9}
		as(t, h)
		if Depends(h, 1, 0) || !Apart(h, 1, 0) {
			t.Error("the node has another key now")
		}
		h[1].Reads[0] = api.Span{Lo: 5, Hi: 5}
		if !Depends(h, 1, 0) || Apart(h, 1, 0) {
			t.Error("the node has its key again")
		}
	}
	l := Of(h[:5])
	a := Add(l, h[:5], h[5])
	if b := Add(l, h[:5], node("9")); !same(Add(l, h[:5], h[5]), a) || len(b[5]) != 0 {
		t.Error("the same again")
	}
}
