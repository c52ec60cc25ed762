package inc

import (
	"math"
	"math/rand"
	"reflect"
	"regexp"
	"slices"
	"strconv"
	"strings"
	"testing"

	"gimmal/api"
	"gimmal/cat"
	"gimmal/deps"
	"gimmal/rsg"
	"gimmal/units"
)

// The model: a list of nodes, of which packages units, deps and rsg are asked anew each time, as a whole.

// askOf tells what is to be told of a node behind a history.
func askOf(x api.Catalogue, h []api.Node, n api.Node) api.Errno {
	all := append(slices.Clip(h), n)
	switch {
	case !units.May(x, all):
		return api.ErrArg
	case !rsg.Good(x, all):
		return api.ErrCycle
	}
	return api.OK
}

// leadsOf tells of each two nodes of a history whether a way along arcs leads from the first one to the second one.
func leadsOf(x api.Catalogue, h []api.Node) [][]bool {
	all := make([][]bool, len(h))
	for i := range all {
		all[i] = make([]bool, len(h))
	}
	for _, a := range rsg.Arcs(x, h) {
		all[a.From][a.To] = true
	}
	for by := range all {
		for i := range all {
			for k := range all {
				all[i][k] = all[i][k] || all[i][by] && all[by][k]
			}
		}
	}
	return all
}

// sagasOf tells the sagas of a history, rising.
func sagasOf(h []api.Node) []int {
	var l []int
	for _, n := range h {
		l = append(l, n.Saga)
	}
	slices.Sort(l)
	return slices.Compact(l)
}

// same tells whether two nodes are the same.
func same(a, b api.Node) bool {
	return a.Saga == b.Saga && a.Class == b.Class && a.Step == b.Step && a.Back == b.Back && slices.Equal(a.Reads, b.Reads) && slices.Equal(a.Writes, b.Writes)
}

// has sees to it that all that a graph tells of its nodes is what the model tells of a history.
func has(t *testing.T, g *Graph, x api.Catalogue, h []api.Node) {
	t.Helper()
	if l := g.History(); !slices.EqualFunc(l, h, same) {
		t.Fatalf("History is %v, not %v", l, h)
	}
	order := rsg.Order(x, h)
	if l := g.Order(); len(order) != len(h) || !slices.Equal(l, order) {
		t.Fatalf("Order of %v is %v, not %v", h, l, order)
	}
	if l := g.Sagas(); !slices.Equal(l, sagasOf(h)) {
		t.Fatalf("Sagas of %v: %v", h, l)
	}
	on, leads := deps.Of(h), leadsOf(x, h)
	for i := -1; i <= len(h); i++ {
		is := 0 <= i && i < len(h)
		if l := g.On(i); !is && len(l) > 0 || is && !slices.Equal(l, on[i]) {
			t.Fatalf("On(%d) of %v: %v", i, h, l)
		}
		for k := -1; k <= len(h); k++ {
			if want := is && 0 <= k && k < len(h) && leads[i][k]; g.Reach(i, k) != want {
				t.Fatalf("Reach(%d, %d) of %v isn't %t", i, k, h, want)
			}
		}
	}
}

// came sees to it that Ask and Add tell of a node what is wanted, as the model does too, and that a graph has the node just if it may come; the nodes that the graph has then are told.
func came(t *testing.T, g *Graph, x api.Catalogue, h []api.Node, n api.Node, want api.Errno) []api.Node {
	t.Helper()
	if e := askOf(x, h, n); e != want {
		t.Fatalf("the model of %v, behind %v: %d, not %d", n, h, e, want)
	}
	was := g.Copy()
	if e := g.Ask(n); e != want {
		t.Fatalf("Ask(%v), behind %v: %d, not %d", n, h, e, want)
	}
	if !reflect.DeepEqual(g, was) {
		t.Fatalf("Ask(%v) changes the graph of %v", n, h)
	}
	if e := g.Add(n); e != want {
		t.Fatalf("Add(%v), behind %v: %d, not %d", n, h, e, want)
	}
	if want == api.OK {
		return append(slices.Clip(h), n)
	}
	if !reflect.DeepEqual(g, was) {
		t.Fatalf("Add(%v) is refused, but changes the graph of %v", n, h)
	}
	return h
}

// What is asked.

// steps tells a closed catalogue of classes of so many steps.
func steps(l ...int) api.Catalogue {
	do := api.Step{Code: []api.Instr{{Op: api.OpSet, A: 1, X: 7}}}
	var x api.Catalogue
	for i, n := range l {
		x.Classes = append(x.Classes, api.Class{Name: string(rune('a' + i)), Steps: slices.Repeat([]api.Step{do}, n), Comps: make([]api.Step, n)})
	}
	return x
}

// broken tells a catalogue with the breakpoints of words such as ab3: of the class a to the class b the bits of 3.
func broken(x api.Catalogue, words string) api.Catalogue {
	for _, s := range strings.Fields(words) {
		b, err := strconv.Atoi(s[2:])
		if err != nil {
			panic(err)
		}
		x.Breaks[s[0]-'a'][s[1]-'a'] = b
	}
	return x
}

// shop tells a catalogue of classes of 3, 2, 1 and 4 steps, with some breakpoints.
func shop(breaks string) api.Catalogue { return broken(steps(3, 2, 1, 4), breaks) }

// notCatalogues tells catalogues that may not be, each for one reason.
func notCatalogues() []api.Catalogue {
	l := []api.Catalogue{{}, steps(2, 2, 2, 2, 2), steps(4, 0), steps(4, 5), broken(steps(2, 2), "aa2"), broken(steps(2, 2), "ab-1"), broken(steps(2, 2), "ac1"), broken(steps(2, 2), "dd1")}
	twice, noName, noComp, noCode := steps(4, 2), steps(4, 2), steps(4, 2), steps(4, 2)
	twice.Classes[1].Name = "a"
	noName.Classes[1].Name = ""
	noComp.Classes[1].Comps = nil
	noCode.Classes[0].Steps[3].Code = nil
	return append(l, twice, noName, noComp, noCode)
}

// spans tells the spans of their ends.
func spans(ends ...int) []api.Span {
	var l []api.Span
	for e := range slices.Chunk(ends, 2) {
		l = append(l, api.Span{Lo: e[0], Hi: e[1]})
	}
	return l
}

var (
	word = regexp.MustCompile(`^(-?\d+)([a-z])(-?\d+)('?)((?:[rw]\d+(?:-\d+)?)*)([?!]?)$`)
	part = regexp.MustCompile(`([rw])(\d+)(?:-(\d+))?`)
)

// asked is a node, and what is to be told of it.
type asked struct {
	n    api.Node
	want api.Errno
}

// one tells what a word such as 12b0'r5w6-7 asks: the step 0 of the saga 12, of the class 1, is compensated; 5 is read, 6 and 7 are written. With ? behind it, it may not come, with ! it would turn round.
func one(s string) asked {
	m := word.FindStringSubmatch(s)
	if m == nil {
		panic(s)
	}
	saga, _ := strconv.Atoi(m[1])
	step, _ := strconv.Atoi(m[3])
	a := asked{n: api.Node{Saga: saga, Class: int(m[2][0] - 'a'), Step: step, Back: m[4] != ""}}
	for _, p := range part.FindAllStringSubmatch(m[5], -1) {
		lo, _ := strconv.Atoi(p[2])
		hi := lo
		if p[3] != "" {
			hi, _ = strconv.Atoi(p[3])
		}
		if p[1] == "r" {
			a.n.Reads = append(a.n.Reads, spans(lo, hi)...)
		} else {
			a.n.Writes = append(a.n.Writes, spans(lo, hi)...)
		}
	}
	switch m[6] {
	case "?":
		a.want = api.ErrArg
	case "!":
		a.want = api.ErrCycle
	}
	return a
}

// node tells the node of a word.
func node(s string) api.Node { return one(s).n }

// hist tells the nodes of words.
func hist(words string) []api.Node {
	var l []api.Node
	for _, s := range strings.Fields(words) {
		l = append(l, node(s))
	}
	return l
}

// run asks the nodes of words one by one, sees to it that each is told what stands behind it, and tells the graph and the nodes that came.
func run(t *testing.T, x api.Catalogue, words string) (*Graph, []api.Node) {
	t.Helper()
	g := New(x)
	var h []api.Node
	for _, s := range strings.Fields(words) {
		a := one(s)
		h = came(t, g, x, h, a.n, a.want)
		has(t, g, x, h)
	}
	return g, h
}

// graph tells a graph of nodes that may come.
func graph(t *testing.T, x api.Catalogue, h []api.Node) *Graph {
	t.Helper()
	g := New(x)
	for i, n := range h {
		if e := g.Add(n); e != api.OK {
			t.Fatalf("the node %d of %v: %d", i, h, e)
		}
	}
	return g
}

// odd tells numbers that no node has, and some that one may have.
func odd() []int {
	return []int{math.MinInt, math.MinInt + 1, -1 << 32, -65, -64, -63, -5, -1, 0, 1, 2, 3, 4, 5, 63, 64, 65, 99, 100, 101, 127, 128, 129, 1 << 32, 1<<32 + 1, math.MaxInt - 1, math.MaxInt}
}

// P18.1: New, Ask, Add.

// TestExample: the chapter's.
func TestExample(t *testing.T) { run(t, steps(2), "1a0w5 2a0w5 2a1w6 1a1w6!") }

func TestNew(t *testing.T) {
	open := cat.Open(steps(4, 4, 4, 4))
	for _, x := range []api.Catalogue{steps(1), steps(4, 4, 4, 4), open, shop(""), shop("aa3 bd1 da7"), broken(steps(2), "aa1")} {
		g := New(x)
		if g == nil {
			t.Fatalf("no graph of %v", x)
		}
		has(t, g, x, nil)
		if h, order, l := g.History(), g.Order(), g.Sagas(); len(h)+len(order)+len(l) > 0 {
			t.Errorf("of no nodes: %v, %v, %v", h, order, l)
		}
	}
	for _, x := range notCatalogues() {
		if g := New(x); g != nil {
			t.Errorf("a graph of %v", x)
		}
	}
}

// TestMayNotCome: for its saga, class, step, or because it does, or does not, compensate.
func TestMayNotCome(t *testing.T) {
	for _, words := range []string{
		// First of its saga.
		"1a1? 1a2? 1a-1? 1a3? 1a4? 1a0'? 1a1'? -1a0? -1a0'? 1e0? 1z0? 1a0", "1c1? 1c0'? 1c0 1c1? 1c0? 1c0' 1c0'? 1c0? 1c-1'? 1c1'?", "0a0 0a0?", "1d4? 1d3? 1d0",
		// One by one.
		"1a0 1a0? 1a2? 1a1 1a1? 1a0? 1a2 1a2? 1a3? 1a0?", "1d0 1d1 1d3? 1d2 1d3 1d4? 1d3?",
		// Of another class.
		"1a0 1b1? 1d1? 1a1 1b2? 1d2? 1b0? 1a2 1d3?", "1a0 1b0'? 1a1 1b1'? 1d1'? 1a1' 1b0'? 1a0'",
		// What compensates: the last one, the one ahead, and no step any more.
		"1a0 1a1'? 1a-1'? 1a0' 1a0'? 1a-1'? 1a0? 1a1?", "1a0 1a1 1a0'? 1a2'? 1a1' 1a1'? 1a1? 1a2?",
		"1d0 1d1 1d2 1d3 1d2'? 1d4'? 1d3' 1d1'? 1d3'? 1d2' 1d3? 1d2? 1d0'? 1d1' 1d0' 1d0'? 1d0? 1d1?",
		// Sagas beside each other.
		"1a0 2a1? 2b0 2a1? 1b1? 2b1 1a1 3c0 3c1? 1a2 2b1' 1a2' 1a2'? 2b0' 2b0'? 1a1' 3c0' 1a0'", "5a0 3a0 5a0? 3a0? 4a1? 5a1 3a2? 4a2?",
	} {
		for _, breaks := range []string{"", "aa3 ab1 bb1 da7"} {
			run(t, shop(breaks), words)
		}
	}
}

// TestMayComeBehindAnother: one that may not come may do so as soon as another one has come, and not once that was refused.
func TestMayComeBehindAnother(t *testing.T) {
	run(t, shop(""), "1b1r9? 1b0 1b1r9")
	run(t, shop(""), "1b0'w5? 1b0 1b0'w5")
	run(t, shop(""), "1d3? 1d2? 1d1? 1d0 1d3? 1d2? 1d1 1d3? 1d2 1d3")
	run(t, shop(""), "1b0w5 1b1 1b0'? 1b1' 1b0'")
	// The one ahead of it would turn round, and did not come.
	run(t, shop(""), "1a0w5 2c0r5w6 1a1r6! 1a2? 1a1'? 1a0'")
	run(t, shop("ac2"), "1a0w5 2c0r5w6 1a1r6! 1a2? 1a1 1a2r6")
}

// TestMayNotComeForItsSpans: in what it has read, or written.
func TestMayNotComeForItsSpans(t *testing.T) {
	long := slices.Repeat(spans(5, 5), 41)
	x := shop("")
	for _, s := range [][]api.Span{spans(5, 4), spans(-1, 5), spans(0, 1000), spans(1000, 1000), spans(-1, -1), spans(math.MinInt, math.MaxInt), spans(1, 2, 5, 4), spans(5, 4, 1, 2), long, slices.Repeat(spans(5, 5), 100000)} {
		g, h := run(t, x, "1b0w5r7")
		for _, n := range []api.Node{node("1b1"), node("2c0"), node("1b0'")} {
			bad := n
			bad.Reads = s
			h = came(t, g, x, h, bad, api.ErrArg)
			bad.Reads, bad.Writes = nil, s
			h = came(t, g, x, h, bad, api.ErrArg)
			bad.Reads = s
			h = came(t, g, x, h, bad, api.ErrArg)
			has(t, g, x, h)
			bad.Reads, bad.Writes = spans(3, 3, 0, 999, 4, 4), long[:40]
			fine := g.Copy()
			has(t, fine, x, came(t, fine, x, h, bad, api.OK))
		}
	}
}

// TestArgAheadOfCycle: a node that may not come is told so, though it would turn round, too.
func TestArgAheadOfCycle(t *testing.T) {
	run(t, shop(""), "1a0w5 2c0r5w6 1a1r6! 1a2r6? 1b1r6? 1a-1r6? 1a1'r6? 1a0r6? -1a1r6? 1a1r6!")
	x := shop("")
	g, h := run(t, x, "1a0w5 2c0r5w6 1a1r6!")
	bad := node("1a1r6")
	bad.Writes = spans(5, 4)
	h = came(t, g, x, h, bad, api.ErrArg)
	bad.Writes = slices.Repeat(spans(6, 6), 41)
	h = came(t, g, x, h, bad, api.ErrArg)
	bad.Writes = bad.Writes[1:]
	came(t, g, x, h, bad, api.ErrCycle)
}

// TestTurnsRound: who would be told ErrCycle, and who would not, but for a breakpoint or a key.
func TestTurnsRound(t *testing.T) {
	for _, c := range []struct{ breaks, words string }{
		// Between two nodes of a unit one that depends on the first one, and the second one on that.
		{"", "1b0w5 2c0r5w6 1b1r6!"}, {"bc1", "1b0w5 2c0r5w6 1b1r6"}, {"bb1 bd1 ba1 cb0", "1b0w5 2c0r5w6 1b1r6!"}, {"", "1b0w5 2c0r5w6 1b1r7"}, {"", "1b0w5 2c0r5r6 1b1r6"}, {"", "1b0w5 2c0r5r6 1b1w6!"}, {"", "1b0r5 2c0r5w6 1b1r6"}, {"", "1b0r5 2c0w5w6 1b1w6!"},
		{"", "1b0w5 2c0w5 1b1w5!"}, {"", "1b0w5 2c0r5 1b1r5"}, {"", "1b0w5 2c0r5 1b1w5!"}, {"bc1", "1b0w5 2c0r5 1b1w5"}, {"", "1b0 2c0w5 1b1w5"}, {"", "1b0w5 2c0w5 1b1"},
		// Units of a part of the steps.
		{"ac1", "1a0w5 2c0r5w6 1a1r6"}, {"ac2", "1a0w5 2c0r5w6 1a1r6!"}, {"ac2", "1a0w5 1a1 2c0r5w6 1a2r6"}, {"ac1", "1a0w5 1a1 2c0r5w6 1a2r6"}, {"ac1", "1a0 1a1w5 2c0r5w6 1a2r6!"}, {"ac3", "1a0 1a1w5 2c0r5w6 1a2r6"}, {"ac1", "1a0w5 2c0r5w6 1a1 1a2r6"}, {"ac2", "1a0w5 2c0r5w6 1a1 1a2r6"}, {"", "1a0w5 2c0r5w6 1a1 1a2r6!"},
		{"dc1", "1d0w5 1d1 1d2 2c0r5w6 1d3r6"}, {"dc2", "1d0w5 1d1 1d2 2c0r5w6 1d3r6"}, {"dc4", "1d0w5 1d1 1d2 2c0r5w6 1d3r6"}, {"da7 db7 dd7", "1d0w5 1d1 1d2 2c0r5w6 1d3r6!"}, {"dc5", "1d0w1 1d1w5 2c0r5w6 1d2r6!"},
		// Each in the other one's unit.
		{"", "1b0w5 2b0w5 2b1w6 1b1w6!"}, {"", "1b0w5 2b0w5 1b1w6 2b1w6"}, {"bb1", "1b0w5 2b0w5 2b1w6 1b1w6"}, {"", "1b0w5 2b0w6 2b1r5 1b1r6!"}, {"", "1b0w5 2b0w6 1b1r6 2b1r5!"}, {"", "1a0w5 2b0w6 2b1r5 1a1r6!"}, {"ab1", "1a0w5 2b0w6 2b1r5 1a1r6"}, {"ba1", "1a0w5 2b0w6 2b1r5 1a1r6"}, {"ab1 ba1", "1a0w5 2b0w6 2b1r5 1a1r6"},
		{"ab1", "1a0w5 2b0r5 2b1w6 1a1r6"}, {"ba1", "1a0w5 2b0r5 2b1w6 1a1r6!"}, {"ba1", "1b0w5 2a0r5 2a1w6 1b1r6"}, {"ab3", "1b0w5 2a0r5 2a1w6 1b1r6!"},
		// By way of a third one, and of nodes of its own.
		{"", "1b0w5 2c0r5w6 3c0r6w7 1b1r7!"}, {"bc1", "1b0w5 2c0r5w6 3c0r6w7 1b1r7"}, {"", "1b0w5 2b0r5w6 3c0r6w7 2b1 1b1r7!"}, {"", "1b0w5 2b0r5w6 3b0r6w7 1b1 2b1 3b1r5"}, {"", "1b0w5 2b0r5 3b0w6 1b1r6 2b1 3b1"}, {"", "1b0w5 2b0r5w6 3b0r6w7 1b1r7!"},
		{"", "1b0w5 2d0r5 2d1 2d2w6 1b1r6!"}, {"bd1", "1b0w5 2d0r5 2d1 2d2w6 1b1r6"}, {"", "2d0 2d1w6 1b0w5 2d2r5 1b1r6!"}, {"", "2d0 2d1w6 1b0r6w5 2d2r5! 1b1 2d2r5!"}, {"", "1b0r6w5 2d0r5 1b1 2d1w6 2d2 2d3"},
		// The unit that a node is the first one of grows, and what depended on that one must come behind all of it.
		{"", "1a0w5 2c0r5w6 3c0w7 1a1r7 1a2r6!"}, {"", "1a0w5 2c0r5 3c0w7 1a1r7 1a2w7"}, {"", "1a0w5 2b0r5 1a1w6 2b1w7 1a2r7!"}, {"", "1a0w5 2b0r5 1a1w6 2b1w7 1a2w5!"}, {"ab2", "1a0w5 2b0r5 1a1w6 2b1w7 1a2r7"},
		// Behind a unit that has ended for one class, and not for another one.
		{"ab1", "1a0w5 2b0r5w6 3c0r5w7 1a1r6 1a2r7!"}, {"ac1", "1a0w5 2b0r5w6 3c0r5w7 1a1r6! 1a1r7"}, {"ab1 ac1", "1a0w5 2b0r5w6 3c0r5w7 1a1r6 1a2r7"}, {"ab1", "1a0w5 2b0r5w6 3c0r6w7 1a1r7!"}, {"ab1 ac1", "1a0w5 2b0r5w6 3c0r6w7 1a1r7"},
	} {
		run(t, shop(c.breaks), c.words)
	}
}

// TestTurnsRoundAgain: a node that is refused is so again, behind others that came, and others that did not, until its saga is compensated.
func TestTurnsRoundAgain(t *testing.T) {
	for _, words := range []string{
		"1b0w5 2c0r5w6 1b1r6! 1b1r6! 3c0 1b1r6! 3c1? 1b1r6! 4b0r6 4b1w5 1b1r6! 4b1' 4b0'w9 1b1r6! 1b0'w5 1b1r6?",
		"1b0w5 2c0r5w6 1b1r6! 3c0w6 1b1r6! 1b1 1b1r6? 1b1' 1b1r6?",
		"1b0w5 2b0w5 2b1w6 1b1w6! 3b0w6 3b1w5 1b1w6! 3b1' 3b0'w6 1b1w6! 4c0r0-999 1b1w6! 1b1r7 1b1w6?",
		"1b0w5 2c0r5w6 1b1r6! 2c0' 1b1r6! 2c0'? 1b1r6! 1b0'",
		"1b0w5 2b0w6 1b1r6 2b1r5! 1b1' 2b1r5! 1b0'w5 2b1r5! 2b0' 2b1r5? 3b0w5",
	} {
		run(t, shop(""), words)
	}
}

// TestCompensatesWhoeverIsUnderWay: it may come, where its saga may not go on.
func TestCompensatesWhoeverIsUnderWay(t *testing.T) {
	for _, breaks := range []string{"", "bb1", "bc1 ab3", "dd5 ad1"} {
		x := shop(breaks)
		for _, words := range []string{
			"1b0w5 2c0r5w6 1b0'r6w5", "1b0w5 2c0r5w6 1b0'r0-999w0-999 2c0'r0-999w0-999", "1b0w5 2b0w5 1b0'w5 2b0'w5", "1b0w5 2b0w5 2b0'w5 1b0'w5", "1d0w5 2d0r5w6 1d0'w6r5 2d0'w5w6", "1d0w1 2d0w2 3d0w3 1d0'r2-3w1-3 2d0'r1-3w1-3 3d0'r1-3w1-3",
			"1a0w1 2a0w2 1a1w3 2a1w4 1a1'w1-4 2a1'w1-4 1a0'w1-4 2a0'w1-4", "1d0w1 2b0w2 1d1w3 2b1w4 1d2w5 3c0r5 1d2'w1-5 2b1'w1-5 3c0'w1-5 1d1'w1-5 2b0'w1-5 1d0'w1-5",
		} {
			run(t, x, words)
		}
	}
	run(t, shop(""), "1b0w5 2b0w6 1b1r6 2b1r5! 2b0'r0-999w0-999 1b1'r0-999w0-999 1b0'r0-999w0-999")
	run(t, shop(""), "1b0w5 2b0r5w6 3b0r6w7 1b1r7! 2b1r7! 1b0'r7w0-999 2b1r7! 3b1r6! 2b0'r7 3b1r9! 3b0'r1w0-999")
}

// P18.2: History, Order, On, Reach.

// told is what is told of a history.
type told struct {
	breaks, h, order string
	on               string // of each node, cut by |
	reach            string // of each node those that it leads to, cut by |
}

// numbers tells the numbers of a text.
func numbers(words string) []int {
	var l []int
	for _, s := range strings.Fields(words) {
		n, err := strconv.Atoi(s)
		if err != nil {
			panic(s)
		}
		l = append(l, n)
	}
	return l
}

func TestTold(t *testing.T) {
	for _, c := range []told{
		{"", "7c0", "0", "", ""},
		{"", "7c0 5c0", "0 1", "|", "|"}, {"", "7c0w5 5c0r5", "0 1", "|0", "1|"}, {"", "7c0r5 5c0r5", "0 1", "|", "|"},
		{"", "1b0 1b1", "0 1", "|0", "1|"}, {"", "1b0 1b0'", "0 1", "|0", "1|"}, {"", "1d0 1d1 1d2 1d3", "0 1 2 3", "|0|0 1|0 1 2", "1 2 3|2 3|3|"},
		{"", "1d0 1d1 1d1' 1d0'", "0 1 2 3", "|0|0 1|0 1 2", "1 2 3|2 3|3|"},
		// The shared example.
		{"", "1b0w5 2b0w5 2b1w6 1b0'w5", "0 1 2 3", "|0|0 1|0 1", "1 2 3|2 3|3|"},
		// What depends on a unit comes behind all of it, as it grows.
		{"", "1b0w5 2c0r5 1b1", "0 2 1", "|0|0", "1 2||1"}, {"", "1b0w5 2c0r5", "0 1", "|0", "1|"}, {"bc1", "1b0w5 2c0r5 1b1", "0 1 2", "|0|0", "1 2||"},
		{"", "1d0w5 2c0r5 1d1 1d2 1d3", "0 2 3 4 1", "|0|0|0 2|0 2 3", "1 2 3 4||1 3 4|1 4|1"}, {"dc2", "1d0w5 2c0r5 1d1 1d2 1d3", "0 2 1 3 4", "|0|0|0 2|0 2 3", "1 2 3 4||1 3 4|4|"}, {"dc1", "1d0w5 2c0r5 1d1 1d2 1d3", "0 1 2 3 4", "|0|0|0 2|0 2 3", "1 2 3 4||3 4|4|"},
		// What a unit depends on comes ahead of all of it.
		{"", "1b0 2c0w5 1b1r5", "1 0 2", "||0 1", "2|0 2|"}, {"bc1", "1b0 2c0w5 1b1r5", "0 1 2", "||0 1", "2|2|"}, {"", "1a0 1a1 2c0w5 1a2r5", "2 0 1 3", "|0||0 1 2", "1 3|3|0 1 3|"}, {"ac1", "1a0 1a1 2c0w5 1a2r5", "0 2 1 3", "|0||0 1 2", "1 3|3|1 3|"}, {"ac2", "1a0 1a1 2c0w5 1a2r5", "0 1 2 3", "|0||0 1 2", "1 3|3|3|"},
		// What compensates is a unit alone.
		{"", "1b0 2c0w5 1b0'r5", "0 1 2", "||0 1", "2|2|"}, {"", "1b0w5 2c0r5 1b0'", "0 1 2", "|0|0", "1 2||"}, {"", "1b0 1b1w5 1b1' 2c0r5 1b0'", "0 1 2 3 4", "|0|0 1|0 1|0 1 2", "1 2 3 4|2 3 4|4||"},
		// By way of others.
		{"", "1c0w5 2c0r5w6 3c0r6", "0 1 2", "|0|0 1", "1 2|2|"}, {"", "1b0w5 2b0r5 2b1w6 3c0r6", "0 1 2 3", "|0|0 1|0 1 2", "1 2 3|2 3|3|"}, {"", "1b0w5 2b0r5 3c0 1b1", "0 2 3 1", "|0||0", "1 3|||1"},
		{"", "1b0w5 2b0r5w6 3b0r6 1b1 2b1 3b1", "0 3 1 4 2 5", "|0|0 1|0|0 1|0 1 2", "1 2 3 4 5|2 4 5|5|1 2 4 5|2 5|"},
	} {
		x, h := shop(c.breaks), hist(c.h)
		g := graph(t, x, h)
		has(t, g, x, h)
		if l := g.Order(); !slices.Equal(l, numbers(c.order)) {
			t.Errorf("of %s, %s: the order %v", c.breaks, c.h, l)
		}
		on, reach := strings.Split(c.on, "|"), strings.Split(c.reach, "|")
		if len(on) != len(h) || len(reach) != len(h) {
			t.Fatalf("of %s: %s, %s", c.h, c.on, c.reach)
		}
		for i := range h {
			if l := g.On(i); !slices.Equal(l, numbers(on[i])) {
				t.Errorf("of %s, %s: On(%d) is %v", c.breaks, c.h, i, l)
			}
			for k := range h {
				if g.Reach(i, k) != slices.Contains(numbers(reach[i]), k) {
					t.Errorf("of %s, %s: Reach(%d, %d) is %t", c.breaks, c.h, i, k, g.Reach(i, k))
				}
			}
		}
	}
}

// TestNoSuchNode: below zero and beyond, of no nodes, of some, and of as many as there may be.
func TestNoSuchNode(t *testing.T) {
	x := shop("")
	for _, n := range []int{0, 1, 5, 63, 64, 65, 99, 100} {
		g := graph(t, x, row(n))
		for _, i := range odd() {
			is := 0 <= i && i < n
			if l := g.On(i); len(l) > 0 && (!is || len(l) != i) {
				t.Errorf("of %d nodes: On(%d) is %v", n, i, l)
			}
			for _, k := range append(odd(), n-1, n, n+1) {
				if g.Reach(i, k) != (is && i < k && k < n) || g.Reach(k, i) != (is && 0 <= k && k < i) {
					t.Errorf("of %d nodes: Reach of %d and %d: %t, %t", n, i, k, g.Reach(i, k), g.Reach(k, i))
				}
			}
		}
	}
}

// TestNothingToItself: no way leads from a node to itself.
func TestNothingToItself(t *testing.T) {
	for _, words := range []string{"7c0", "7c0w5r5", "1d0w5 1d1w5 1d2w5 1d3w5", "1b0w5 2c0r5 1b1", "1b0 2c0w5 1b1r5", "1b0w5 2c0r5w6 1b1r6!", "1b0w5 2b0w5 2b1w6 1b1w6! 1b0'w5"} {
		g, h := run(t, shop(""), words)
		for i := range h {
			if g.Reach(i, i) {
				t.Errorf("of %s: %d leads to itself", words, i)
			}
		}
	}
}

// row tells so many nodes, each of a saga of its own, that all write one key.
func row(n int) []api.Node {
	var h []api.Node
	for i := range n {
		h = append(h, api.Node{Saga: 200 - i, Class: 2, Writes: spans(5, 5)})
	}
	return h
}

// loose tells so many nodes, each of a saga of its own, that conflict with nothing but what has their keys, from 300 on.
func loose(n int) []api.Node {
	var h []api.Node
	for i := range n {
		h = append(h, api.Node{Saga: 200 + i, Class: 2, Writes: spans(300+i, 300+i)})
	}
	return h
}

// TestMoreThanAWord: what is reachable fills more than one word, up to as many nodes as a history may have.
func TestMoreThanAWord(t *testing.T) {
	x := shop("")
	g := New(x)
	for i, n := range row(100) {
		if e := g.Add(n); e != api.OK {
			t.Fatal(i, e)
		}
		if i > 60 && i < 70 || i == 99 {
			has(t, g, x, row(100)[:i+1])
		}
	}
	has(t, New(x), x, nil)
	for _, n := range []string{"1c0", "1c0w5", "200c0'", "101c0'"} {
		came(t, g, x, row(100), node(n), api.ErrArg)
	}
	has(t, g, x, row(100))
}

// TestUnitAcrossWords: a unit begins at one place, and ends at another one; in between, or behind, stands one that depends on it, or on which it depends.
func TestUnitAcrossWords(t *testing.T) {
	x := shop("")
	for _, c := range [][3]int{{0, 1, 2}, {0, 62, 63}, {0, 63, 64}, {0, 64, 65}, {1, 64, 99}, {62, 63, 64}, {62, 64, 99}, {63, 64, 65}, {63, 65, 99}, {64, 65, 66}, {64, 98, 99}, {0, 98, 99}, {10, 70, 80}, {31, 32, 33}} {
		first, mid, last := c[0], c[1], c[2]
		for _, keys := range [][3]string{{"w5", "r5", ""}, {"", "w5", "r5"}, {"w5", "r5w6", "r6"}, {"w5", "", "w6"}, {"w5", "w5", "w5"}} {
			h := loose(100)
			h[first], h[mid], h[last] = node("1b0"+keys[0]), node("2c0"+keys[1]), node("1b1"+keys[2])
			g := graph(t, x, h[:last])
			if askOf(x, h[:last], h[last]) != api.OK {
				came(t, g, x, h[:last], h[last], api.ErrCycle)
				h[last] = node("1b0'" + keys[2])
			}
			came(t, g, x, h[:last], h[last], api.OK)
			has(t, g, x, h[:last+1])
			for _, n := range h[last+1:] {
				g.Add(n)
			}
			has(t, g, x, h)
		}
	}
}

// TestAsManyAsThereMayBe: of sagas that all have several nodes.
func TestAsManyAsThereMayBe(t *testing.T) {
	for _, breaks := range []string{"dd7", "dd2", ""} {
		x := shop(breaks)
		var h []api.Node
		for i := range 100 {
			h = append(h, api.Node{Saga: i % 25, Class: 3, Step: i / 25, Reads: spans(i%25, i%25, 50, 50), Writes: spans(100+i%30, 100+i%30)})
		}
		g := New(x)
		var l []api.Node
		for _, n := range h {
			e := askOf(x, l, n)
			l = came(t, g, x, l, n, e)
		}
		has(t, g, x, l)
		if breaks == "dd7" && len(l) != 100 {
			t.Errorf("of 100 nodes there came %d", len(l))
		}
	}
}

// P18.3: Trim, Sagas, Copy.

// kept tells a closure that keeps some sagas.
func kept(sagas ...int) func(int) bool {
	return func(saga int) bool { return slices.Contains(sagas, saga) }
}

// trims sees to it that Trim tells a graph of the nodes that keep is told to leave, and that it goes its own way.
func trims(t *testing.T, g *Graph, x api.Catalogue, h []api.Node, keep func(int) bool) *Graph {
	t.Helper()
	var rest []api.Node
	for _, n := range h {
		if keep(n.Saga) {
			rest = append(rest, n)
		}
	}
	if !rsg.Good(x, rest) {
		t.Fatalf("the model of %v: the graph of %v isn't good", h, rest)
	}
	was := g.Copy()
	m, ok := g.Trim(keep)
	if !ok || m == nil || m == g {
		t.Fatalf("Trim of %v: %v, %t", h, m, ok)
	}
	has(t, m, x, rest)
	if o := graph(t, x, rest); !reflect.DeepEqual(m.on, o.on) || !reflect.DeepEqual(m.first, o.first) || !reflect.DeepEqual(m.leads, o.leads) {
		t.Fatalf("Trim of %v isn't as if the others had never come", h)
	}
	if !reflect.DeepEqual(g, was) {
		t.Fatalf("Trim changes the graph of %v", h)
	}
	return m
}

func TestTrim(t *testing.T) {
	all, none := func(int) bool { return true }, func(int) bool { return false }
	for _, breaks := range []string{"", "aa1 bb1 bc1 dd5"} {
		x := shop(breaks)
		for _, s := range []string{
			"", "7c0", "1b0 1b1", "1b0w5 2c0r5 1b1", "1b0w5 2c0r5w6 3c0r6w7 4c0r7", "9b0w5 7c0r5 9b1 5d0w6 3c0r5r6 5d1 5d1'w6 0c0 5d0'", "1b0w5 2b0w5 3b0w5 1b1 2b1 3b1", "3a0w1 2a0w2 1a0w3 3a1w1 2a1w2 1a1w3 3a2w1 2a2w2 1a2w3", "1b0w5 2c0r5w6 1b0'r6",
		} {
			h := hist(s)
			g := graph(t, x, h)
			trims(t, g, x, h, all)
			trims(t, g, x, h, none)
			trims(t, g, x, h, kept(1000, -1, math.MinInt))
			for _, a := range sagasOf(h) {
				trims(t, g, x, h, kept(a))
				trims(t, g, x, h, func(saga int) bool { return saga != a })
				for _, b := range sagasOf(h) {
					trims(t, g, x, h, kept(a, b))
				}
			}
		}
	}
}

// TestTrimGoesOn: nodes come to what is left, and to what it was trimmed from, each as its own nodes say.
func TestTrimGoesOn(t *testing.T) {
	x := shop("")
	g, h := run(t, x, "1b0w5 2c0r5w6 3b0w7 1b1r6! 4c0r7")
	m := trims(t, g, x, h, kept(1, 3, 4))
	rest := hist("1b0w5 3b0w7 4c0r7")
	// Without the saga 2 nothing turns round; its nodes may come again.
	rest = came(t, m, x, rest, node("1b1r6"), api.OK)
	h = came(t, g, x, h, node("1b1r6"), api.ErrCycle)
	rest = came(t, m, x, rest, node("2c0r5w6"), api.OK)
	h = came(t, g, x, h, node("2c0r5w6"), api.ErrArg)
	h = came(t, g, x, h, node("3b1r7"), api.OK)
	has(t, m, x, rest)
	has(t, g, x, h)
	less := trims(t, m, x, rest, kept(2))
	rest = came(t, m, x, rest, node("3b1w9"), api.OK)
	has(t, less, x, hist("2c0r5w6"))
	has(t, trims(t, less, x, hist("2c0r5w6"), kept(1)), x, nil)
	has(t, m, x, rest)
}

// TestTrimOfMany: nodes beyond a word come nearer.
func TestTrimOfMany(t *testing.T) {
	x := shop("")
	h := row(100)
	g := graph(t, x, h)
	for _, keep := range []func(int) bool{func(saga int) bool { return saga%2 == 0 }, func(saga int) bool { return saga > 150 }, func(saga int) bool { return saga < 120 }, kept(200), kept(101), kept(137, 136, 135), func(saga int) bool { return saga != 137 }} {
		m := trims(t, g, x, h, keep)
		more := m.History()
		for i := range 3 {
			n := api.Node{Saga: 7 + i, Class: 2, Reads: spans(5, 5)}
			more = came(t, m, x, more, n, askOf(x, more, n))
		}
		has(t, m, x, more)
	}
	has(t, g, x, h)
}

// TestTrimAsks: each saga that has nodes, once, and none that hasn't; so none is kept in part by a keep that tells otherwise each time.
func TestTrimAsks(t *testing.T) {
	x := shop("")
	h := hist("9b0w5 7c0r5 9b1 5d0w6 3c0r5r6 5d1 5d1' 0c0")
	g := graph(t, x, h)
	var l []int
	g.Trim(func(saga int) bool { l = append(l, saga); return false })
	if !slices.Equal(l, []int{0, 3, 5, 7, 9}) {
		t.Errorf("asked of %v", l)
	}
	for first := range 2 {
		n := first
		m, ok := g.Trim(func(int) bool { n++; return n%2 == 0 })
		if !ok || first == 0 && !slices.Equal(m.Sagas(), []int{3, 7}) || first == 1 && !slices.Equal(m.Sagas(), []int{0, 5, 9}) {
			t.Fatalf("by turns: %v, %t", m.Sagas(), ok)
		}
		has(t, m, x, m.History())
	}
	if m, ok := g.Trim(nil); !ok || len(m.History()) > 0 || m.Ask(node("1b0")) != api.OK {
		t.Errorf("of a nil keep: %v, %t", m, ok)
	}
	has(t, g, x, h)
}

// TestTrimWhileNodesCome: what keep does to the graph itself is no part of what is trimmed.
func TestTrimWhileNodesCome(t *testing.T) {
	x := shop("")
	g := graph(t, x, hist("1b0w5 2c0r5"))
	m, ok := g.Trim(func(saga int) bool {
		g.Add(node("1b1"))
		g.Add(node("3c0"))
		return saga == 1
	})
	if !ok {
		t.Fatal("no graph")
	}
	has(t, m, x, hist("1b0w5"))
	has(t, g, x, hist("1b0w5 2c0r5 1b1 3c0"))
}

func TestSagas(t *testing.T) {
	for _, c := range []struct{ h, want string }{
		{"", ""}, {"0c0", "0"}, {"7c0", "7"}, {"1b0 1b1", "1"}, {"2c0 1c0", "1 2"}, {"9b0 1d0 9b1 5c0 1d1 0c0 1d1' 9b1' 1d0'", "0 1 5 9"}, {"30a0 20a0 10a0 10a1 30a1 20a1 20a2 10a2 30a2", "10 20 30"}, {"9223372036854775807c0 0c0 4294967296c0", "0 4294967296 9223372036854775807"},
		// Those that are over, too, and not those whose nodes were refused.
		{"3c0 3c0' 2c0", "2 3"}, {"3c0 2c1? 1b1? -1c0?", "3"},
	} {
		g, _ := run(t, shop(""), c.h)
		if l := g.Sagas(); !slices.Equal(l, numbers(c.want)) {
			t.Errorf("of %s: %v", c.h, l)
		}
	}
	g := graph(t, shop(""), row(100))
	if l := g.Sagas(); len(l) != 100 || l[0] != 101 || l[99] != 200 || !slices.IsSorted(l) {
		t.Errorf("of 100: %v", l)
	}
}

// TestCopyGoesOnApart: nodes come to what was copied, and to the copy, each as its own nodes say.
func TestCopyGoesOnApart(t *testing.T) {
	x := shop("")
	g, h := run(t, x, "1b0w5 2c0r5")
	c := g.Copy()
	if c == g || !reflect.DeepEqual(c, g) {
		t.Fatal("the copy is not one")
	}
	mine, its := h, h
	mine = came(t, g, x, mine, node("3c0r5w6"), api.OK)
	has(t, c, x, its)
	mine = came(t, g, x, mine, node("1b1r6"), api.ErrCycle)
	its = came(t, c, x, its, node("1b1r6"), api.OK)
	has(t, g, x, mine)
	its = came(t, c, x, its, node("1b1'"), api.OK)
	its = came(t, c, x, its, node("3d0w5"), api.OK)
	mine = came(t, g, x, mine, node("1b0'w5"), api.OK)
	again := c.Copy()
	c.Add(node("9c0"))
	has(t, again, x, its)
	has(t, c, x, append(slices.Clip(its), node("9c0")))
	has(t, g, x, mine)
	// Of no nodes, too.
	e := New(x)
	f := e.Copy()
	f.Add(node("1b0"))
	has(t, e, x, nil)
	has(t, f, x, hist("1b0"))
}

// TestCopiesOfMany: one from each number of nodes on goes its own way, while the others do.
func TestCopiesOfMany(t *testing.T) {
	x := shop("")
	h := row(90)
	g := New(x)
	var copies []*Graph
	for _, n := range h {
		copies = append(copies, g.Copy())
		g.Add(n)
	}
	for i, c := range copies {
		for k := range 8 {
			c.Add(api.Node{Saga: 300 + k%2, Class: 3, Step: k / 2, Reads: spans(5, 5), Writes: spans(400+k, 400+k)})
		}
		if l := c.History(); len(l) != i+8 {
			t.Fatalf("the copy %d has %d", i, len(l))
		}
	}
	has(t, g, x, h)
	for _, i := range []int{0, 1, 55, 56, 57, 63, 64, 65, 89} {
		has(t, copies[i], x, copies[i].History())
		if !slices.EqualFunc(copies[i].History()[:i], h[:i], same) {
			t.Fatalf("the copy %d has other nodes", i)
		}
	}
}

// P18.4, and all of it: all short histories, and any longer ones.

// tally counts what nodes were told.
type tally map[api.Errno]int

// held sees to it that each was told often enough.
func (c tally) held(t *testing.T, least int) {
	t.Helper()
	if min(c[api.OK], c[api.ErrArg], c[api.ErrCycle]) < least || len(c) != 3 {
		t.Fatalf("the test asks too little: %v", c)
	}
}

// grow asks each of some nodes, goes on with a copy to which it has come, if it may, up to so many, and sees to it that each graph is as it was behind all that.
func grow(t *testing.T, g *Graph, x api.Catalogue, h, some []api.Node, most int, count tally) {
	t.Helper()
	has(t, g, x, h)
	for _, n := range some {
		want := askOf(x, h, n)
		count[want]++
		if n.Back && want == api.ErrCycle {
			t.Fatalf("%v compensates, behind %v", n, h)
		}
		if e := g.Ask(n); e != want {
			t.Fatalf("Ask(%v), behind %v: %d, not %d", n, h, e, want)
		}
		c := g.Copy()
		if e := c.Add(n); e != want {
			t.Fatalf("Add(%v), behind %v: %d, not %d", n, h, e, want)
		}
		if want != api.OK {
			if !reflect.DeepEqual(c, g) {
				t.Fatalf("Add(%v) is refused, but changes the graph of %v", n, h)
			}
		} else if most > 0 {
			grow(t, c, x, append(slices.Clip(h), n), some, most-1, count)
		}
	}
	if !slices.EqualFunc(g.History(), h, same) {
		t.Fatalf("the graph of %v has %v", h, g.History())
	}
}

func TestAllShortHistories(t *testing.T) {
	count := tally{}
	for _, c := range []struct {
		x      api.Catalogue
		breaks []string
		some   string
		most   int
	}{
		{steps(2), []string{"", "aa1"}, "1a0w5 1a0r6 1a1w6 1a1r5 1a1' 1a0'w5 2a0w5 2a0r6 2a1w6 2a1r5 2a0'w6", 6},
		{steps(2, 1), []string{"", "ab1"}, "1a0w5 1a1r6w7 1a1r7 1a0'w5 2b0r5w6 2b0'w7 3b0r7w5 3b0r6w7", 6},
		{steps(3, 2), []string{"", "ab1", "ab2", "ab3 ba1", "ba1"}, "1a0w5 1a1r6 1a1w7 1a2w7 1a2r6 1a1'w5 1a0' 2b0r5 2b0w7 2b1w6w7 2b0'w6", 6},
		{steps(2, 2), []string{"", "ab1", "aa1 ba1"}, "1a0w5 1a1r7 1a1w6 2b0r5w6 2b1w7 2b1w5 3a0r6 3a1w5 3a0'", 6},
	} {
		for _, breaks := range c.breaks {
			x := broken(c.x, breaks)
			grow(t, New(x), x, nil, hist(c.some), c.most, count)
		}
	}
	count.held(t, 800)
}

// anyKeys tells some of a few keys.
func anyKeys(r *rand.Rand) []api.Span {
	var l []api.Span
	for r.Intn(2) == 0 {
		lo := r.Intn(19)
		l = append(l, api.Span{Lo: lo, Hi: lo + r.Intn(2)})
	}
	return l
}

// anyCatalogue tells one that may be, with any breakpoints.
func anyCatalogue(r *rand.Rand) api.Catalogue {
	var l []int
	for range 1 + r.Intn(4) {
		l = append(l, 1+r.Intn(4))
	}
	x := steps(l...)
	for c, n := range l {
		for d := range l {
			if r.Intn(2) == 0 {
				x.Breaks[c][d] = r.Intn(1 << (n - 1))
			}
		}
	}
	return x
}

// anyNode tells one that comes next of some saga, of which there are so many, or compensates; now and then it is another one, that may hardly come.
func anyNode(r *rand.Rand, x api.Catalogue, h []api.Node, sagas int) api.Node {
	n := api.Node{Saga: r.Intn(sagas), Class: r.Intn(len(x.Classes)), Reads: anyKeys(r), Writes: anyKeys(r)}
	for _, o := range h {
		if o.Saga == n.Saga {
			n.Class, n.Back, n.Step = o.Class, o.Back, o.Step+1
			if o.Back {
				n.Step = o.Step - 1
			} else if r.Intn(8) == 0 {
				n.Back, n.Step = true, o.Step
			}
		}
	}
	switch r.Intn(30) {
	case 0:
		n.Step += r.Intn(3) - 1
	case 1:
		n.Class += r.Intn(3) - 1
	case 2:
		n.Back = !n.Back
	case 3:
		n.Reads = append(n.Reads, api.Span{Lo: 5, Hi: 4})
	}
	return n
}

// TestAnyNodes: whatever nodes are asked, those that came are a history whose graph is good.
func TestAnyNodes(t *testing.T) {
	count := tally{}
	for seed := range 400 {
		r := rand.New(rand.NewSource(int64(seed)))
		x := anyCatalogue(r)
		g := New(x)
		var h []api.Node
		sagas := 2 + r.Intn(8)
		for range 20 + r.Intn(20) {
			n := anyNode(r, x, h, sagas)
			want := askOf(x, h, n)
			count[want]++
			if n.Back && want == api.ErrCycle {
				t.Fatalf("%v compensates, behind %v", n, h)
			}
			h = came(t, g, x, h, n, want)
		}
		has(t, g, x, h)
		for range 3 {
			half := r.Intn(1 << 10)
			m := trims(t, g, x, h, func(saga int) bool { return half>>saga%2 == 1 })
			rest := m.History()
			for range 4 {
				n := anyNode(r, x, rest, sagas)
				rest = came(t, m, x, rest, n, askOf(x, rest, n))
			}
			has(t, m, x, rest)
		}
	}
	count.held(t, 300)
}

// TestAnyNodesUpToAll: until a history has as many as it may have.
func TestAnyNodesUpToAll(t *testing.T) {
	count := tally{}
	for seed := range 6 {
		r := rand.New(rand.NewSource(int64(seed)))
		x := anyCatalogue(r)
		if seed%2 == 0 {
			x = cat.Open(x)
		}
		g := New(x)
		var h []api.Node
		for i := 0; i < 160 && len(h) < 100; i++ {
			n := anyNode(r, x, h, 60)
			want := askOf(x, h, n)
			count[want]++
			if e := g.Add(n); e != want {
				t.Fatalf("Add(%v), behind %v: %d, not %d", n, h, e, want)
			}
			if want == api.OK {
				h = append(h, n)
			}
			if i%40 == 0 {
				has(t, g, x, h)
			}
		}
		has(t, g, x, h)
		if len(h) == 100 {
			came(t, g, x, h, api.Node{Saga: 77}, api.ErrArg)
		}
	}
	count.held(t, 15)
}

// TestOpenAndClosed: of an open catalogue no node is told ErrCycle; of a closed one none that comes behind all of another saga.
func TestOpenAndClosed(t *testing.T) {
	for seed := range 60 {
		r := rand.New(rand.NewSource(int64(seed)))
		any := anyCatalogue(r)
		open, closed := cat.Open(any), cat.Closed(any)
		g := New(open)
		for range 40 {
			if e := g.Add(anyNode(r, open, g.History(), 9)); e == api.ErrCycle {
				t.Fatalf("of an open catalogue, behind %v", g.History())
			}
		}
		s := New(closed)
		for saga := range 12 {
			c := r.Intn(len(closed.Classes))
			for step := range closed.Classes[c].Steps {
				if e := s.Add(api.Node{Saga: saga, Class: c, Step: step, Reads: anyKeys(r), Writes: anyKeys(r)}); e != api.OK {
					t.Fatalf("saga by saga, behind %v: %d", s.History(), e)
				}
			}
		}
	}
}

// Wrong inputs.

func TestNil(t *testing.T) {
	var g *Graph
	for _, n := range []api.Node{{}, node("1b0w5"), node("-1b9'"), {Reads: spans(5, 4)}} {
		if a, b := g.Ask(n), g.Add(n); a != api.ErrArg || b != api.ErrArg {
			t.Errorf("of nil: %d, %d", a, b)
		}
	}
	if h, order, l := g.History(), g.Order(), g.Sagas(); len(h)+len(order)+len(l) > 0 {
		t.Errorf("of nil: %v, %v, %v", h, order, l)
	}
	for _, i := range odd() {
		if l := g.On(i); len(l) > 0 || g.Reach(i, i) || g.Reach(i, 0) || g.Reach(0, i) {
			t.Errorf("of nil: %v", l)
		}
	}
	for _, keep := range []func(int) bool{nil, func(int) bool { return true }, func(int) bool { t.Error("asked"); return false }} {
		if m, ok := g.Trim(keep); m != nil || ok {
			t.Errorf("Trim of nil: %v, %t", m, ok)
		}
	}
	if c := g.Copy(); c != nil {
		t.Errorf("Copy of nil: %v", c)
	}
}

// TestZeroNode: it is a first step of the first class, and may not come twice.
func TestZeroNode(t *testing.T) {
	x := shop("")
	g := New(x)
	h := came(t, g, x, nil, api.Node{}, api.OK)
	h = came(t, g, x, h, api.Node{}, api.ErrArg)
	has(t, g, x, h)
}

func TestOddNumbers(t *testing.T) {
	x := shop("")
	for _, i := range odd() {
		g, h := run(t, x, "70a0 70a1 71a0")
		for _, n := range []api.Node{{Saga: i}, {Saga: i, Class: 3}, {Saga: 70, Class: i, Step: 2}, {Saga: 70, Step: i}, {Saga: 70, Step: i, Back: true}, {Saga: 5, Class: i}, {Saga: 5, Step: i}, {Saga: i, Class: i, Step: i, Back: true}, {Saga: 71, Class: i, Step: 0, Back: true}} {
			c := g.Copy()
			came(t, c, x, h, n, askOf(x, h, n))
		}
		has(t, g, x, h)
	}
}

// TestZeroGraph: one that no call gave takes no node, and has nothing.
func TestZeroGraph(t *testing.T) {
	var g Graph
	for range 2 {
		if a, b := g.Ask(node("1a0")), g.Add(node("1a0")); a != api.ErrArg || b != api.ErrArg {
			t.Errorf("of a zero one: %d, %d", a, b)
		}
		if len(g.History())+len(g.Order())+len(g.Sagas())+len(g.On(0)) > 0 || g.Reach(0, 0) {
			t.Error("a zero one has something")
		}
	}
	g.Trim(kept(1))
	g.Copy()
}

// Memory.

// whole tells a list with its spare room.
func whole[T any](l []T) []T { return l[:cap(l)] }

// spare tells a list that is the same, with spare room in which something stands.
func spare[T any](l []T, more T) []T {
	return append(slices.Clone(l), more, more, more)[:len(l)]
}

// roomy tells a node that is the same, with spare room.
func roomy(n api.Node) api.Node {
	n.Reads, n.Writes = spare(n.Reads, api.Span{Lo: 3, Hi: 3}), spare(n.Writes, api.Span{Lo: 4, Hi: 4})
	return n
}

// TestLeftAsItWas: what is handed in, and its spare room; and none of it is kept.
func TestLeftAsItWas(t *testing.T) {
	for _, breaks := range []string{"", "bb1 bc1"} {
		catalogue := func() api.Catalogue {
			x := shop(breaks)
			for i, c := range x.Classes {
				for k := range c.Steps {
					c.Steps[k].Code = spare([]api.Instr{{Op: api.OpSet, X: 5}}, api.Instr{Op: api.OpGet})
					c.Steps[k].Foot = spare([]api.SpanT{{}}, api.SpanT{Write: true})
				}
				x.Classes[i].Steps, x.Classes[i].Comps = spare(c.Steps, api.Step{}), spare(c.Comps, api.Step{})
			}
			x.Classes = spare(x.Classes, api.Class{Name: "more"})
			return x
		}
		x := catalogue()
		for i := range x.Classes {
			for k := range x.Classes[i].Steps {
				x.Classes[i].Steps[k].Foot[0] = api.SpanT{Lo: api.KeyT{Arg: -1, Base: 5}, Hi: api.KeyT{Arg: -1, Base: 5}}
			}
		}
		if !cat.May(x) {
			t.Fatal("the catalogue may not be")
		}
		was := cat.Open(x)
		was.Breaks = x.Breaks
		g := New(x)
		var h []api.Node
		for _, s := range strings.Fields("1b0w5r7r1 2c0r5w6 1b1r6! 3b0w9w5 1b2? 1b1 3b1r9 2c0'w6") {
			n := roomy(node(s))
			g.Ask(n)
			e := g.Add(n)
			o := roomy(node(s))
			if !reflect.DeepEqual(whole(n.Reads), whole(o.Reads)) || !reflect.DeepEqual(whole(n.Writes), whole(o.Writes)) {
				t.Fatalf("changed: %v", n)
			}
			if e == api.OK {
				h = append(h, node(s))
			}
			// Now it is another node.
			for i := range whole(n.Reads) {
				whole(n.Reads)[i] = api.Span{Lo: 0, Hi: 999}
			}
			clear(whole(n.Writes))
			has(t, g, was, h)
		}
		again := catalogue()
		for i := range again.Classes {
			for k := range again.Classes[i].Steps {
				again.Classes[i].Steps[k].Foot[0] = x.Classes[i].Steps[k].Foot[0]
			}
		}
		if !reflect.DeepEqual(whole(x.Classes), whole(again.Classes)) || x.Breaks != again.Breaks {
			t.Fatal("the catalogue is changed")
		}
		// Now it is another catalogue.
		for i := range x.Classes {
			clear(whole(x.Classes[i].Steps[0].Code))
			clear(whole(x.Classes[i].Steps[0].Foot))
			clear(whole(x.Classes[i].Steps))
			clear(whole(x.Classes[i].Comps))
		}
		clear(whole(x.Classes))
		has(t, g, was, h)
		h = came(t, g, was, h, node("7d0w5"), api.OK)
		h = came(t, g, was, h, node("3b1'"), api.OK)
		has(t, g.Copy(), was, h)
		trims(t, g, was, h, kept(3, 7))
	}
}

// TestAnswersAreNew: what is done to an answer, in its spare room too, changes neither the graph nor another answer.
func TestAnswersAreNew(t *testing.T) {
	x := shop("")
	g, h := run(t, x, "9b0w5r7r1 2c0r5w6 3b0w9w5 9b1 3b1r9 2c0'w6")
	other := []*Graph{g, g.Copy(), trims(t, g, x, h, func(int) bool { return true })}
	for _, a := range other {
		l, on, order, sagas := a.History(), a.On(4), a.Order(), a.Sagas()
		again, onAgain, orderAgain, sagasAgain := a.History(), a.On(4), a.Order(), a.Sagas()
		for i := range l {
			clear(whole(l[i].Reads))
			clear(whole(l[i].Writes))
		}
		clear(whole(l))
		clear(whole(on))
		clear(whole(order))
		clear(whole(sagas))
		if !slices.EqualFunc(again, h, same) || !slices.Equal(onAgain, deps.Of(h)[4]) || !slices.Equal(orderAgain, rsg.Order(x, h)) || !slices.Equal(sagasAgain, sagasOf(h)) {
			t.Fatal("another answer is changed")
		}
		for _, o := range other {
			has(t, o, x, h)
		}
		// And a node that was told may come to another graph, and be turned then.
		b := New(x)
		for _, n := range again {
			if e := b.Add(n); e != api.OK {
				t.Fatal(e)
			}
		}
		for i := range again {
			clear(whole(again[i].Reads))
			clear(whole(again[i].Writes))
		}
		has(t, a, x, h)
		has(t, b, x, h)
	}
}

// TestTwoAlike: two graphs to which the same was done tell the same.
func TestTwoAlike(t *testing.T) {
	for seed := range 30 {
		r := rand.New(rand.NewSource(int64(seed)))
		x := anyCatalogue(r)
		a, b := New(x), New(x)
		for range 30 {
			n := anyNode(r, x, a.History(), 6)
			if e := a.Add(n); b.Add(n) != e {
				t.Fatalf("of %v", n)
			}
			// What is only asked leaves nothing behind.
			a.Ask(anyNode(r, x, a.History(), 6))
			a.Order()
			a.Trim(kept(1, 2))
		}
		if !reflect.DeepEqual(a, b) {
			t.Fatalf("of %v", a.History())
		}
	}
}
