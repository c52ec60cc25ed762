package rsg

import (
	"fmt"
	"math"
	"math/rand"
	"reflect"
	"regexp"
	"slices"
	"strconv"
	"strings"
	"testing"

	"gimmal/api"
	"gimmal/cat"
	"gimmal/units"
)

// The model: what the document's words say, done plainly. Each three of two numbers and a kind are asked whether there is such an arc; who leads to whom is told by way of each node.

// spansMeet tells whether two lists of spans, that may be, have a key in common.
func spansMeet(a, b []api.Span) bool {
	for _, s := range a {
		for _, o := range b {
			if max(s.Lo, o.Lo) <= min(s.Hi, o.Hi) {
				return true
			}
		}
	}
	return false
}

// inConflict tells whether two nodes conflict.
func inConflict(a, b api.Node) bool {
	one := spansMeet(a.Writes, b.Reads) || spansMeet(a.Writes, b.Writes) || spansMeet(a.Reads, b.Writes)
	return a.Saga != b.Saga && one
}

// square tells so many rows of so many.
func square(n int) [][]bool {
	all := make([][]bool, n)
	for i := range all {
		all[i] = make([]bool, n)
	}
	return all
}

// byWay adds to what leads from one number to another one what does so by way of others.
func byWay(all [][]bool) {
	for m := range all {
		for i := range all {
			for k := range all {
				all[i][k] = all[i][k] || all[i][m] && all[m][k]
			}
		}
	}
}

// dependsOf tells of each two nodes whether the first one depends on the second one.
func dependsOf(h []api.Node) [][]bool {
	all := square(len(h))
	for i := range h {
		for k := range i {
			all[i][k] = h[i].Saga == h[k].Saga || inConflict(h[i], h[k])
		}
	}
	byWay(all)
	return all
}

// unitOf tells the numbers of all nodes of the unit of a node relative to a class.
func unitOf(x api.Catalogue, h []api.Node, i, d int) []int {
	if h[i].Back {
		return []int{i}
	}
	number := func(n api.Node) int {
		u := 0
		for s := range n.Step {
			u += x.Breaks[n.Class][d] >> s % 2
		}
		return u
	}
	var all []int
	for k, n := range h {
		if n.Saga == h[i].Saga && !n.Back && number(n) == number(h[i]) {
			all = append(all, k)
		}
	}
	return all
}

// arcsOf tells all arcs of a history that may be.
func arcsOf(x api.Catalogue, h []api.Node) []api.Arc {
	on := dependsOf(h)
	// Of each node and class the ends of its unit.
	var ends [][4][2]int
	for i := range h {
		var e [4][2]int
		for d := range x.Classes {
			u := unitOf(x, h, i, d)
			e[d] = [2]int{slices.Min(u), slices.Max(u)}
		}
		ends = append(ends, e)
	}
	is := func(from, to, kind int) bool {
		switch kind {
		case 1:
			between := func(n api.Node) bool { return n.Saga == h[from].Saga }
			return from < to && h[from].Saga == h[to].Saga && !slices.ContainsFunc(h[from+1:to], between)
		case 2:
			return h[from].Saga != h[to].Saga && on[to][from]
		case 3:
			for a, n := range h {
				if n.Saga != h[to].Saga && on[to][a] && ends[a][h[to].Class][1] == from {
					return true
				}
			}
		case 4:
			for b, n := range h {
				if n.Saga != h[from].Saga && on[b][from] && ends[b][h[from].Class][0] == to {
					return true
				}
			}
		}
		return false
	}
	var l []api.Arc
	for from := range h {
		for to := range h {
			for kind := 1; kind <= 4; kind++ {
				if is(from, to, kind) {
					l = append(l, api.Arc{From: from, To: to, Kind: kind})
				}
			}
		}
	}
	return l
}

// answers is what the model tells of a catalogue and a history.
type answers struct {
	may, good    bool
	arcs         []api.Arc
	order, cycle []int
}

// modelOf tells what is to be answered.
func modelOf(x api.Catalogue, h []api.Node) answers {
	if !units.May(x, h) {
		return answers{}
	}
	m := answers{may: true, arcs: arcsOf(x, h)}
	leads, from := square(len(h)), square(len(h))
	for _, a := range m.arcs {
		leads[a.From][a.To], from[a.From][a.To] = true, true
	}
	byWay(leads)
	for i := range h {
		if leads[i][i] {
			m.cycle = append(m.cycle, i)
		}
	}
	m.good = len(m.cycle) == 0
	if m.good {
		m.order = orderOf(from)
	}
	return m
}

// orderOf tells the order of nodes of which none leads to itself.
func orderOf(from [][]bool) []int {
	var l []int
	for range from {
		var can []int
		for i := range from {
			waits := slices.Contains(l, i)
			for k := range from {
				waits = waits || from[k][i] && !slices.Contains(l, k)
			}
			if !waits {
				can = append(can, i)
			}
		}
		l = append(l, slices.Min(can))
	}
	return l
}

// What is asked.

// steps tells a closed catalogue of classes of so many steps.
func steps(l ...int) api.Catalogue {
	do := api.Step{Code: []api.Instr{{Op: api.OpSet, A: 1, X: 7}}}
	var x api.Catalogue
	for i, n := range l {
		x.Classes = append(x.Classes, api.Class{Name: string(rune('a' + i)), Steps: slices.Repeat([]api.Step{do}, n), Comps: make([]api.Step, n)})
	}
	return x
}

// broken tells a catalogue with the breakpoints of words such as ab3: of the class a to the class b the bits of 3.
func broken(x api.Catalogue, words string) api.Catalogue {
	for _, s := range strings.Fields(words) {
		b, err := strconv.Atoi(s[2:])
		if err != nil {
			panic(err)
		}
		x.Breaks[s[0]-'a'][s[1]-'a'] = b
	}
	return x
}

// shop tells a catalogue of classes of 3, 2, 1 and 4 steps, with some breakpoints.
func shop(breaks string) api.Catalogue { return broken(steps(3, 2, 1, 4), breaks) }

// notCatalogues tells catalogues that may not be, each for one reason.
func notCatalogues() []api.Catalogue {
	l := []api.Catalogue{{}, steps(2, 2, 2, 2, 2), steps(4, 0), steps(4, 5), broken(steps(2, 2), "aa2"), broken(steps(2, 2), "ab-1"), broken(steps(2, 2), "ac1"), broken(steps(2, 2), "dd1")}
	twice, noName, noComp, noCode := steps(4, 2), steps(4, 2), steps(4, 2), steps(4, 2)
	twice.Classes[1].Name = "a"
	noName.Classes[1].Name = ""
	noComp.Classes[1].Comps = nil
	noCode.Classes[0].Steps[3].Code = nil
	return append(l, twice, noName, noComp, noCode)
}

// spans tells the spans of their ends.
func spans(ends ...int) []api.Span {
	var l []api.Span
	for e := range slices.Chunk(ends, 2) {
		l = append(l, api.Span{Lo: e[0], Hi: e[1]})
	}
	return l
}

var (
	word = regexp.MustCompile(`^(-?\d+)([a-z])(-?\d+)('?)((?:[rw]\d+(?:-\d+)?)*)$`)
	part = regexp.MustCompile(`([rw])(\d+)(?:-(\d+))?`)
)

// node tells a node of a word such as 12b0'r5w6-7: the step 0 of the saga 12, of the class 1, is compensated; 5 is read, 6 and 7 are written.
func node(s string) api.Node {
	m := word.FindStringSubmatch(s)
	if m == nil {
		panic(s)
	}
	saga, _ := strconv.Atoi(m[1])
	step, _ := strconv.Atoi(m[3])
	n := api.Node{Saga: saga, Class: int(m[2][0] - 'a'), Step: step, Back: m[4] != ""}
	for _, p := range part.FindAllStringSubmatch(m[5], -1) {
		lo, _ := strconv.Atoi(p[2])
		hi := lo
		if p[3] != "" {
			hi, _ = strconv.Atoi(p[3])
		}
		if p[1] == "r" {
			n.Reads = append(n.Reads, spans(lo, hi)...)
		} else {
			n.Writes = append(n.Writes, spans(lo, hi)...)
		}
	}
	return n
}

// hist tells the nodes of words.
func hist(words string) []api.Node {
	var l []api.Node
	for _, s := range strings.Fields(words) {
		l = append(l, node(s))
	}
	return l
}

// arcs tells the arcs of words such as 0-1od: from the node 0 to the node 1 an arc of the kind own, and one of the kind depends.
func arcs(words string) []api.Arc {
	var l []api.Arc
	for _, s := range strings.Fields(words) {
		var a api.Arc
		var kinds string
		if _, err := fmt.Sscanf(s, "%d-%d%s", &a.From, &a.To, &kinds); err != nil {
			panic(s)
		}
		for _, k := range kinds {
			a.Kind = 1 + strings.IndexRune("odfb", k)
			l = append(l, a)
		}
	}
	return l
}

// numbers tells the numbers of a text.
func numbers(words string) []int {
	var l []int
	for _, s := range strings.Fields(words) {
		n, err := strconv.Atoi(s)
		if err != nil {
			panic(s)
		}
		l = append(l, n)
	}
	return l
}

// odd tells numbers that are no class, and no step, whatever the catalogue, and those around the ones that are.
func odd() []int {
	return []int{math.MinInt, math.MinInt + 1, -5, -1, 0, 1, 2, 3, 4, 5, 6, 63, 64, 65, 1 << 32, math.MaxInt - 1, math.MaxInt}
}

// as sees to it that all that is told of a history is what the model tells, and tells that.
func as(t *testing.T, x api.Catalogue, h []api.Node) answers {
	t.Helper()
	m := modelOf(x, h)
	if l := Arcs(x, h); !slices.Equal(l, m.arcs) {
		t.Fatalf("Arcs(%v): %v, not %v", h, l, m.arcs)
	}
	if Good(x, h) != m.good {
		t.Fatalf("Good(%v) isn't %t", h, m.good)
	}
	if l := Order(x, h); !slices.Equal(l, m.order) {
		t.Fatalf("Order(%v): %v, not %v", h, l, m.order)
	}
	if l := Cycle(x, h); !slices.Equal(l, m.cycle) {
		t.Fatalf("Cycle(%v): %v, not %v", h, l, m.cycle)
	}
	if len(h) > 0 {
		next(t, x, h[:len(h)-1], h[len(h)-1], m.good)
	}
	return m
}

// next sees to it what Next says.
func next(t *testing.T, x api.Catalogue, h []api.Node, n api.Node, want bool) {
	t.Helper()
	if Next(x, h, n) != want {
		t.Fatalf("Next(%v, %v) isn't %t", h, n, want)
	}
}

// nothing sees to it that there is nothing of what may not be.
func nothing(t *testing.T, x api.Catalogue, h []api.Node) {
	t.Helper()
	if as(t, x, h).may {
		t.Fatalf("%v may be", h)
	}
	if len(Arcs(x, h)) != 0 || Good(x, h) || len(Order(x, h)) != 0 || len(Cycle(x, h)) != 0 {
		t.Fatalf("of %v: %v, %t, %v, %v", h, Arcs(x, h), Good(x, h), Order(x, h), Cycle(x, h))
	}
}

// P16.1, P16.2: what is told of a history, written out.

// one is a history of the shop with some breakpoints, and what is to be told of it.
type one struct{ breaks, h, arcs, order, cycle string }

// check sees to it that what is told is as it is written out; the model, too, must say so.
func check(t *testing.T, cases []one) {
	t.Helper()
	for _, c := range cases {
		m := as(t, shop(c.breaks), hist(c.h))
		if want := arcs(c.arcs); !m.may || !slices.Equal(m.arcs, want) {
			t.Errorf("the arcs of %s, %s: %v, not %v", c.breaks, c.h, m.arcs, want)
		}
		if !slices.Equal(m.order, numbers(c.order)) || !slices.Equal(m.cycle, numbers(c.cycle)) || m.good != (c.cycle == "") {
			t.Errorf("of %s, %s: %t, %v, %v", c.breaks, c.h, m.good, m.order, m.cycle)
		}
	}
}

func TestNoneAndOneSaga(t *testing.T) {
	check(t, []one{
		{"", "", "", "", ""}, {"", "0a0", "", "0", ""}, {"", "7c0r5w5", "", "0", ""}, {"", "9223372036854775807d0w0-999", "", "0", ""},
		{"", "1a0 1a1", "0-1o", "0 1", ""}, {"", "1a0w5 1a1r5 1a2w5", "0-1o 1-2o", "0 1 2", ""}, {"aa3", "1a0w5 1a1r5 1a2w5", "0-1o 1-2o", "0 1 2", ""},
		{"", "1d0 1d1 1d2 1d3", "0-1o 1-2o 2-3o", "0 1 2 3", ""}, {"dd7", "1d0w5 1d1w5 1d2w5 1d3w5", "0-1o 1-2o 2-3o", "0 1 2 3", ""},
	})
}

// TestSagasApart: sagas of which no nodes conflict have nothing but their own arcs, wherever they come in between.
func TestSagasApart(t *testing.T) {
	for _, breaks := range []string{"", "bb1", "bb1 bc1 cb0"} {
		check(t, []one{
			{breaks, "1c0 2c0 3c0", "", "0 1 2", ""}, {breaks, "3c0 1c0 2c0", "", "0 1 2", ""},
			{breaks, "1b0 2b0 1b1 2b1", "0-2o 1-3o", "0 1 2 3", ""}, {breaks, "1b0r5 2b0r5 1b1r5 2b1r5", "0-2o 1-3o", "0 1 2 3", ""},
			{breaks, "1b0w5 2b0w6 2b1w7 1b1w8", "0-3o 1-2o", "0 1 2 3", ""}, {breaks, "2c0w1-4 1c0r5-9", "", "0 1", ""},
			{breaks, "1b0w5 2c0w6 1b1w5 3c0 4b0r9 4b1r9", "0-2o 4-5o", "0 1 2 3 4 5", ""},
		})
	}
}

// TestTwoNodes: of two sagas that conflict, with each kind but own between them, and told in order of the kinds.
func TestTwoNodes(t *testing.T) {
	check(t, []one{
		{"", "1c0w5 2c0r5", "0-1dfb", "0 1", ""}, {"", "1c0r5 2c0w5", "0-1dfb", "0 1", ""}, {"", "1c0w5 2c0w5", "0-1dfb", "0 1", ""},
		{"", "2c0w1-5 1c0r5-9", "0-1dfb", "0 1", ""}, {"", "1a0w5 2d0r5", "0-1dfb", "0 1", ""}, {"ad3 da7", "2d0w5 1a0r5", "0-1dfb", "0 1", ""},
		{"", "3c0 1c0w5 4c0 2c0r5 5c0", "1-3dfb", "0 1 2 3 4", ""},
	})
}

// TestOneKindAlone: of each kind an arc between two nodes that have no other one.
func TestOneKindAlone(t *testing.T) {
	check(t, []one{
		// Own 0-2 and 1-3, depends 1-2, forward 3-2, back 1-0.
		{"", "2b0 1b0w5 2b1r5 1b1", "0-2o 1-0b 1-2d 1-3o 3-2f", "1 0 3 2", ""},
		// The same, with each node's part of a unit longer.
		{"", "2d0 2d1 1d0 1d1w5 2d2r5 1d2 1d3 2d3", "0-1o 1-4o 2-0b 2-3o 2-4d 2-7d 3-0b 3-4d 3-5o 3-7d 4-7o 5-6o 6-4f 6-7f", "2 3 0 1 5 6 4 7", ""},
	})
}

// TestUnits: a unit goes on behind the node, began ahead of it, does both, and is there in part alone.
func TestUnits(t *testing.T) {
	check(t, []one{
		{"", "1b0w5 2c0r5 1b1", "0-1db 0-2o 2-1f", "0 2 1", ""},
		{"", "1b0 2c0w5 1b1r5", "0-2o 1-0b 1-2df", "1 0 2", ""},
		{"", "1a0 1a1w5 2c0r5 1a2", "0-1o 0-2db 1-2db 1-3o 3-2f", "0 1 3 2", ""},
		{"", "1a0w5 2c0r5 1a1", "0-1db 0-2o 2-1f", "0 2 1", ""},
		{"", "1d0w5 2c0r5 1d1 1d2", "0-1db 0-2o 2-3o 3-1f", "0 2 3 1", ""},
		{"", "1d0 2c0w5 1d1r5", "0-2o 1-0b 1-2df", "1 0 2", ""},
		{"", "1b0w5 2b0w5 2b1w6", "0-1dfb 0-2df 1-2o", "0 1 2", ""},
		// Saga by saga, from the first one's last node to the other one's first one.
		{"", "1b0w5 1b1w6 2b0w5 2b1w6", "0-1o 0-2db 0-3d 1-2fb 1-3df 2-3o", "0 1 2 3", ""},
		{"", "1b0w5 1b1 2b0 2b1r5", "0-1o 0-2b 0-3d 1-3f 2-3o", "0 1 2 3", ""},
		// Another saga of the same class is in no unit of this one.
		{"", "1b0w5 2c0r5 3b0 3b1 1b1", "0-1db 0-4o 2-3o 4-1f", "0 2 3 4 1", ""},
		{"", "1b0 3b0 3b1 2c0w5 1b1r5", "0-4o 1-2o 3-0b 3-4df", "1 2 3 0 4", ""},
	})
}

// TestBreakpoints: none, each one, and all, of a class to another one.
func TestBreakpoints(t *testing.T) {
	forward, back := "1d0w5 2c0r5 1d1 1d2 1d3", "1d0 1d1 2c0w5 1d2r5 1d3"
	check(t, []one{
		{"", forward, "0-1db 0-2o 2-3o 3-4o 4-1f", "0 2 3 4 1", ""}, {"dc7", forward, "0-1dfb 0-2o 2-3o 3-4o", "0 1 2 3 4", ""}, {"dc1", forward, "0-1dfb 0-2o 2-3o 3-4o", "0 1 2 3 4", ""},
		{"dc2", forward, "0-1db 0-2o 2-1f 2-3o 3-4o", "0 2 1 3 4", ""}, {"dc4", forward, "0-1db 0-2o 2-3o 3-1f 3-4o", "0 2 3 1 4", ""}, {"dc6", forward, "0-1db 0-2o 2-1f 2-3o 3-4o", "0 2 1 3 4", ""},
		{"", back, "0-1o 1-3o 2-0b 2-3df 2-4df 3-4o", "2 0 1 3 4", ""}, {"dc7", back, "0-1o 1-3o 2-3dfb 2-4dfb 3-4o", "0 1 2 3 4", ""}, {"dc1", back, "0-1o 1-3o 2-1b 2-3df 2-4df 3-4o", "0 2 1 3 4", ""},
		{"dc2", back, "0-1o 1-3o 2-3dfb 2-4df 3-4o", "0 1 2 3 4", ""}, {"dc4", back, "0-1o 1-3o 2-0b 2-3df 2-4dfb 3-4o", "2 0 1 3 4", ""}, {"dc3", back, "0-1o 1-3o 2-3dfb 2-4df 3-4o", "0 1 2 3 4", ""},
	})
	// Of other classes they change nothing.
	for _, breaks := range []string{"da7", "db7", "dd7", "da7 db7 dd7", "ad3 bd1", "aa3 bb1 ac3 bc1"} {
		check(t, []one{
			{breaks, forward, "0-1db 0-2o 2-3o 3-4o 4-1f", "0 2 3 4 1", ""},
			{breaks, back, "0-1o 1-3o 2-0b 2-3df 2-4df 3-4o", "2 0 1 3 4", ""},
		})
	}
}

// TestBreakpointsToOneClass: of a class to one of two others.
func TestBreakpointsToOneClass(t *testing.T) {
	forward, back := "1b0w5 2c0r5 3b0r5 1b1", "1b0 2c0w5 3a0w6 1b1r5r6"
	check(t, []one{
		{"", forward, "0-1db 0-2db 0-3o 3-1f 3-2f", "0 3 1 2", ""}, {"bc1", forward, "0-1dfb 0-2db 0-3o 3-2f", "0 1 3 2", ""},
		{"bb1", forward, "0-1db 0-2dfb 0-3o 3-1f", "0 2 3 1", ""}, {"bb1 bc1", forward, "0-1dfb 0-2dfb 0-3o", "0 1 2 3", ""},
		{"", back, "0-3o 1-0b 1-3df 2-0b 2-3df", "1 2 0 3", ""}, {"bc1", back, "0-3o 1-3dfb 2-0b 2-3df", "1 2 0 3", ""},
		{"ba1", back, "0-3o 1-0b 1-3df 2-3dfb", "1 0 2 3", ""}, {"ba1 bc1", back, "0-3o 1-3dfb 2-3dfb", "0 1 2 3", ""}, {"ab3 ac3", back, "0-3o 1-0b 1-3df 2-0b 2-3df", "1 2 0 3", ""},
		// Breakpoints of a class to another one are none of that one to it.
		{"ab1", "1a0w5 2b0r5 1a1 2b1", "0-1dfb 0-2o 0-3df 1-3o", "0 1 2 3", ""}, {"ba1", "1a0w5 2b0r5 1a1 2b1", "0-1db 0-2o 0-3db 1-3o 2-1f 2-3f", "0 2 1 3", ""},
	})
}

// TestByWay: of another saga, or of another node of the own one; units are relative to the class that depends, not to the one in between.
func TestByWay(t *testing.T) {
	check(t, []one{
		{"", "1b0w5 3c0r5w6 2c0r6 1b1", "0-1db 0-2db 0-3o 1-2dfb 3-1f 3-2f", "0 3 1 2", ""},
		{"", "1c0w5 2b0r5 2b1w6 3c0r6", "0-1dfb 0-2df 0-3dfb 1-2o 1-3db 2-3dfb", "0 1 2 3", ""},
		{"bc1", "1b0w5 3c0r5w6 2b0r6 1b1", "0-1dfb 0-2db 0-3o 1-2dfb 3-2f", "0 1 3 2", ""},
		{"bb1", "1b0w5 3c0r5w6 2b0r6 1b1", "0-1db 0-2dfb 0-3o 1-2dfb 3-1f", "0 3 1 2", ""},
		{"bc1", "1b0w5 3c0r5w6 2c0r6w7 1b1r7", "0-1dfb 0-2dfb 0-3o 1-2dfb 1-3dfb 2-3dfb", "0 1 2 3", ""},
		{"", "1b0w5 3c0r5w6 2c0r6w7 1b1r7", "0-1db 0-2db 0-3o 1-0b 1-2dfb 1-3df 2-0b 2-3df 3-1f 3-2f", "", "0 1 2 3"},
		// A saga depends on itself by way of another one: that gives no arc within it.
		{"bc1", "1b0w5 2c0r5w6 1b1r6", "0-1dfb 0-2o 1-2dfb", "0 1 2", ""},
	})
}

// TestCompensated: what compensates is a unit alone, and in no step's unit.
func TestCompensated(t *testing.T) {
	check(t, []one{
		{"", "1a0w5 1a1w5 1a1'w5 1a0'w5", "0-1o 1-2o 2-3o", "0 1 2 3", ""},
		{"", "1b0w5 2c0r5 1b0'w5", "0-1dfb 0-2o 1-2dfb", "0 1 2", ""},
		{"", "1b0w5 1b1 2c0r5 1b1'", "0-1o 0-2db 1-2f 1-3o", "0 1 2 3", ""},
		{"", "1b0w5 2c0r5 1b1 1b1'", "0-1db 0-2o 2-1f 2-3o", "0 2 1 3", ""},
		{"", "1b0w5 2b0w5 2b1w6 1b0'w5", "0-1dfb 0-2df 0-3o 1-2o 1-3db 2-3f", "0 1 2 3", ""},
		{"", "1b0w5 2c0r5w6 1b0'r6", "0-1dfb 0-2o 1-2dfb", "0 1 2", ""},
		// On what compensates another one depends, and comes in ahead of the next one that does.
		{"", "1b0 1b1 1b1'w5 2c0r5w6 1b0'r6", "0-1o 0-3db 1-2o 1-3dfb 2-3dfb 2-4o 3-4dfb", "0 1 2 3 4", ""},
		{"", "1b0w5 1b0'w6 2b0r6 2b1", "0-1o 0-2dfb 0-3df 1-2dfb 1-3df 2-3o", "0 1 2 3", ""},
		// Of several sagas.
		{"", "1b0w5 2b0r5 1b1 1b1' 2b0' 1b0'w5", "0-1db 0-2o 0-4db 1-4o 1-5dfb 2-1f 2-3o 2-4f 3-5o", "0 2 1 3 4 5", ""},
		{"", "1c0w5 2c0w5 2c0'w5 1c0'w5", "0-1dfb 0-2dfb 0-3o 1-2o 1-3dfb 2-3dfb", "0 1 2 3", ""},
		{"", "1c0w5 2c0w5 1c0'w5 2c0'w5", "0-1dfb 0-2o 0-3dfb 1-2dfb 1-3o 2-3dfb", "0 1 2 3", ""},
		{"", "1b0w5 2b0w6 1b0'w6 2b0'w5", "0-2o 0-3dfb 1-2dfb 1-3o", "0 1 2 3", ""},
	})
}

// TestSeveralReady: of several nodes that are ready the least one is told, and one that becomes ready later ahead of greater ones.
func TestSeveralReady(t *testing.T) {
	check(t, []one{
		{"", "5c0 1b0 2c0w5 3c0 1b1r5 4c0", "1-4o 2-1b 2-4df", "0 2 1 3 4 5", ""},
		{"", "1b0w5 2c0r5 3b0w6 4c0r6 1b1 3b1", "0-1db 0-4o 2-3db 2-5o 4-1f 5-3f", "0 2 4 1 5 3", ""},
		{"", "1b0w5 2c0r5 3b0w6 4c0r6 3b1 1b1", "0-1db 0-5o 2-3db 2-4o 4-3f 5-1f", "0 2 4 3 5 1", ""},
		{"", "1b0 2b0 3c0w5 4c0w6 1b1r5 2b1r6", "0-4o 1-5o 2-0b 2-4df 3-1b 3-5df", "2 0 3 1 4 5", ""},
		{"", "1b0 2b0 3c0w5 4c0w6 1b1r6 2b1r5", "0-4o 1-5o 2-1b 2-5df 3-0b 3-4df", "2 1 3 0 4 5", ""},
		// Back to the least one again and again.
		{"", "1b0 2b0w7 3b0w8 3b1 1b1r8 2b1", "0-4o 1-5o 2-0b 2-3o 2-4d 3-4f", "1 2 0 3 4 5", ""},
	})
}

// TestCycles: one, two apart, and nodes that lead into one, or come behind it, but are in none.
func TestCycles(t *testing.T) {
	check(t, []one{
		// The chapter's example.
		{"", "1b0w5 2b0w5 2b1w6 1b1w6", "0-1db 0-2d 0-3o 1-0b 1-2o 1-3d 2-0b 2-3df 3-1f 3-2f", "", "0 1 2 3"},
		{"bc1", "1b0w5 2b0w5 2b1w6 1b1w6", "0-1db 0-2d 0-3o 1-0b 1-2o 1-3d 2-0b 2-3df 3-1f 3-2f", "", "0 1 2 3"},
		{"bb1", "1b0w5 2b0w5 2b1w6 1b1w6", "0-1dfb 0-2dfb 0-3o 1-2o 1-3dfb 2-3dfb", "0 1 2 3", ""},
		{"", "1b0w5 2c0r5w6 1b1r6", "0-1db 0-2o 1-0b 1-2df 2-1f", "", "0 1 2"},
		{"", "9c0w5 1b0w5 2c0r5w6 1b1r6", "0-1dfb 0-2dfb 0-3df 1-2db 1-3o 2-1b 2-3df 3-2f", "", "1 2 3"},
		{"", "1b0w5 2c0r5w6 1b1r6 9c0r6", "0-1db 0-2o 0-3db 1-0b 1-2df 1-3dfb 2-1f 2-3f", "", "0 1 2"},
		{"", "1b0w5 2c0r5w6 1b1r6 3b0w7 4c0r7w8 3b1r8", "0-1db 0-2o 1-0b 1-2df 2-1f 3-4db 3-5o 4-3b 4-5df 5-4f", "", "0 1 2 3 4 5"},
		{"", "1b0w5 3b0w7 2c0r5w6 4c0r7w8 1b1r6 3b1r8 9c0", "0-2db 0-4o 1-3db 1-5o 2-0b 2-4df 3-1b 3-5df 4-2f 5-3f", "", "0 1 2 3 4 5"},
		// A saga's first unit alone is in the cycle.
		{"dc4", "1d0w5 1d1 2c0r5w6 1d2r6 1d3", "0-1o 0-2db 1-3o 2-0b 2-3df 2-4dfb 3-2f 3-4o", "", "0 1 2 3"},
		{"dc2", "1d0w5 1d1 2c0r5w6 1d2r6 1d3", "0-1o 0-2db 1-2f 1-3o 2-3dfb 2-4df 3-4o", "0 1 2 3 4", ""},
		{"dc1", "1d0w5 1d1 2c0r5w6 1d2r6 1d3", "0-1o 0-2dfb 1-3o 2-1b 2-3df 2-4df 3-4o", "0 2 1 3 4", ""},
		{"dc1", "1d0 1d1w5 2c0r5w6 1d2r6 1d3", "0-1o 0-2dfb 1-2db 1-3o 2-1b 2-3df 2-4df 3-4o 4-2f", "", "1 2 3 4"},
	})
}

// TestCycleAlone: which nodes are in cycles, where there are more arcs than one would write out.
func TestCycleAlone(t *testing.T) {
	for _, c := range []struct{ breaks, h, cycle string }{
		// A node between two cycles is in none.
		{"", "1b0w5 2c0r5w6 1b1r6 9c0r6w7 3b0r7w8 4c0r8w9 3b1r9", "0 1 2 4 5 6"},
		{"", "9c0w1 1b0r1w5 2c0r5w6 1b1r6 8c0r6w7 3b0r7w8 4c0r8w9 3b1r9 7c0r9", "1 2 3 5 6 7"},
		// A long way there and back.
		{"", "1b0w5 2c0r5w6 3c0r6w7 4c0r7w8 5c0r8w9 1b1r9", "0 1 2 3 4 5"},
		{"bc1", "1b0w5 2c0r5w6 3c0r6w7 4c0r7w8 5c0r8w9 1b1r9", ""},
		{"bc1", "1b0w5 2c0r5w6 3c0r6w7 4a0r7w8 5c0r8w9 1b1r9", "0 1 2 3 4 5"},
		// Two cycles that have a node in common are all in one.
		{"", "1b0w5 2c0r5w6w7 1b1r6 3b0w8 4c0r7", "0 1 2"},
		{"", "1b0w5 3b0w6 2c0r5r6w7 1b1r7 3b1r7", "0 1 2 3 4"},
		// Nothing that compensates leads to itself.
		{"", "1b0w5 2c0r5w6 1b1r6 1b1'w6 2c0'w5 1b0'w5", "0 1 2"},
	} {
		m := as(t, shop(c.breaks), hist(c.h))
		if !slices.Equal(m.cycle, numbers(c.cycle)) {
			t.Errorf("of %s, %s: %v", c.breaks, c.h, m.cycle)
		}
	}
}

// TestBiggest: 100 nodes, and of 101 nothing.
func TestBiggest(t *testing.T) {
	for _, x := range []api.Catalogue{shop(""), cat.Open(shop("")), shop("dd2 da1 dc4")} {
		for name, of := range map[string]func(i int) api.Node{
			"saga by saga": func(i int) api.Node {
				return api.Node{Saga: i / 4, Class: 3, Step: i % 4, Reads: spans(i%7, i%7), Writes: spans(i%4, i%4, 50, 52)}
			},
			"apart": func(i int) api.Node {
				return api.Node{Saga: 99 - i, Class: 2, Reads: spans(900, 999), Writes: spans(5*i, 5*i+4)}
			},
			"each on the one ahead": func(i int) api.Node {
				return api.Node{Saga: i, Class: i % 4, Reads: spans(i, i), Writes: spans(i+1, i+1)}
			},
			"mixed": func(i int) api.Node {
				return api.Node{Saga: i % 25, Class: 3, Step: i / 25, Reads: spans(i/25, i/25), Writes: spans(100+i, 100+i)}
			},
			"compensated": func(i int) api.Node {
				return api.Node{Saga: i / 4, Class: 1, Step: []int{0, 1, 1, 0}[i%4], Back: i%4 > 1, Writes: spans(5, 5)}
			},
		} {
			var h []api.Node
			for i := range 101 {
				n := of(i)
				if i == 100 { // a node that may come, were it not for the number
					n = api.Node{Saga: 1000, Class: 2}
				}
				h = append(h, n)
			}
			if m := as(t, x, h[:99]); !m.good || len(m.order) != 99 {
				t.Fatalf("of 99, %s: %v", name, m.cycle)
			}
			if m := as(t, x, h[:100]); !m.good || len(m.order) != 100 {
				t.Fatalf("of 100, %s: %v", name, m.cycle)
			}
			next(t, x, h[:99], h[99], true)
			next(t, x, h[:99], h[100], true)
			next(t, x, h[:100], h[100], false)
			nothing(t, x, h)
			nothing(t, x, slices.Concat(h, h))
		}
	}
}

// TestBiggestCycle: a saga begins, 98 depend on it, and it goes on behind them.
func TestBiggestCycle(t *testing.T) {
	h := hist("500b0w5")
	for i := range 98 {
		h = append(h, api.Node{Saga: i, Class: 2, Reads: spans(5, 5), Writes: spans(100+i, 100+i)})
	}
	last := node("500b1r100-999")
	as(t, shop(""), h)
	next(t, shop(""), h, last, false)
	next(t, shop("bc1"), h, last, true)
	if m := as(t, shop(""), append(h, last)); len(m.cycle) != 100 {
		t.Errorf("in the cycle: %v", m.cycle)
	}
	if m := as(t, shop("bc1"), append(h, last)); len(m.cycle) != 0 {
		t.Errorf("in the cycle: %v", m.cycle)
	}
}

// TestSagasOfAnyNumber: a saga's number is told apart alone.
func TestSagasOfAnyNumber(t *testing.T) {
	for _, s := range [][2]int{{0, 1}, {1, 0}, {7, 3}, {100, 99}, {math.MaxInt, 0}, {math.MaxInt - 1, math.MaxInt}, {1 << 32, 0}} {
		h := hist("1b0w5 2b0w5 2b1w6 1b1w6")
		for i := range h {
			h[i].Saga = s[h[i].Saga-1]
		}
		if m := as(t, shop(""), h); len(m.cycle) != 4 {
			t.Errorf("of %v: %v", s, m.cycle)
		}
		as(t, shop("bb1"), h)
	}
}

// TestSpansThatAreNotPlain: what a node has read and written is asked as sets of keys.
func TestSpansThatAreNotPlain(t *testing.T) {
	for _, s := range []string{"r9r1-5r3", "w9w5w5", "r5-9r1-5w999", "r0-999r0-999"} {
		h := append(hist("1b0w5"), node("2b0"+s), node("2b1w7-8w6"), node("1b1w6r1r1"))
		if m := as(t, shop(""), h); len(m.cycle) != 4 {
			t.Errorf("of %s: %v", s, m.cycle)
		}
	}
	many := slices.Repeat(spans(9, 9), 39)
	h := []api.Node{{Saga: 1, Class: 2, Writes: append(slices.Clone(many), spans(5, 5)...)}, {Saga: 2, Class: 2, Reads: append(spans(5, 5), many...)}}
	if m := as(t, shop(""), h); !slices.Equal(m.arcs, arcs("0-1dfb")) {
		t.Errorf("of 40 spans: %v", m.arcs)
	}
	h[1].Reads = append(h[1].Reads, spans(5, 5)...)
	nothing(t, shop(""), h)
}

// P16.1 to P16.3: all short histories, and any longer ones.

// after tells all nodes that may come next of as many sagas as there are classes, the i-th one of the i-th class, each with some keys.
func after(x api.Catalogue, h []api.Node, keys []api.Node) []api.Node {
	var l []api.Node
	for saga, c := range x.Classes {
		for _, back := range []bool{false, true} {
			for step := range c.Steps {
				n := api.Node{Saga: saga, Class: saga, Step: step, Back: back}
				if !units.May(x, append(slices.Clip(h), n)) {
					continue
				}
				for _, k := range keys {
					n.Reads, n.Writes = k.Reads, k.Writes
					l = append(l, n)
				}
			}
		}
	}
	return l
}

// grow goes through all histories of so many nodes, at most, behind one.
func grow(x api.Catalogue, h []api.Node, keys []api.Node, most int, try func(h []api.Node)) {
	try(h)
	if most == 0 {
		return
	}
	for _, n := range after(x, h, keys) {
		grow(x, append(slices.Clip(h), n), keys, most-1, try)
	}
}

// balance counts how often something was so, and how often it wasn't.
type balance struct{ yes, no int }

func (b *balance) add(so bool) {
	if so {
		b.yes++
	} else {
		b.no++
	}
}

// held sees to it that something was so often enough, and often enough wasn't.
func (b *balance) held(t *testing.T, least int) {
	t.Helper()
	if b.yes < least || b.no < least {
		t.Fatalf("the test asks too little: %d were so, %d weren't", b.yes, b.no)
	}
}

func TestAllShortHistories(t *testing.T) {
	var good, straight balance
	all := func(x api.Catalogue, keys string, most int) {
		grow(x, nil, hist(keys), most, func(h []api.Node) {
			m := as(t, x, h)
			good.add(m.good)
			straight.add(slices.IsSorted(m.order))
		})
	}
	for _, breaks := range []string{"", "ab1", "ba1", "ab1 ba1"} {
		all(broken(steps(2, 2), breaks), "0a0w5 0a0r5w6 0a0r6", 4)
	}
	for _, breaks := range []string{"", "ac1", "ab2 ac1", "ab3 ac3"} {
		all(broken(steps(3, 1, 1), breaks), "0a0w5 0a0r5w6", 5)
	}
	good.held(t, 500)
	straight.held(t, 500)
}

// anyKeys tells some of a few keys.
func anyKeys(r *rand.Rand) []api.Span {
	var l []api.Span
	for r.Intn(2) == 0 {
		lo := r.Intn(8)
		l = append(l, api.Span{Lo: lo, Hi: lo + r.Intn(2)})
	}
	return l
}

// anyCatalogue tells one of four classes with any breakpoints.
func anyCatalogue(r *rand.Rand) api.Catalogue {
	x := shop("")
	for c := range 4 {
		for d := range 4 {
			all := 1 << (len(x.Classes[c].Steps) - 1)
			x.Breaks[c][d] = r.Intn(all) & r.Intn(all)
		}
	}
	return x
}

// anyNext tells a node that may come next, of one of some sagas, each of any class, but always of the same one; false, if none may.
func anyNext(r *rand.Rand, x api.Catalogue, h []api.Node, sagas int) (api.Node, bool) {
	for range 20 {
		saga := r.Intn(sagas)
		n := api.Node{Saga: saga, Class: []int{3, 1, 0, 3, 2, 0, 1}[saga], Reads: anyKeys(r), Writes: anyKeys(r)}
		n.Step, n.Back = r.Intn(len(x.Classes[n.Class].Steps)), r.Intn(10) == 0
		if units.May(x, append(slices.Clip(h), n)) {
			return n, true
		}
	}
	return api.Node{}, false
}

// anyHistory tells a history of at most so many nodes; if its graph is to be good, none is in it that closes a cycle.
func anyHistory(r *rand.Rand, x api.Catalogue, most int, good bool) []api.Node {
	var h []api.Node
	sagas := 1 + r.Intn(6)
	for range most {
		n, ok := anyNext(r, x, h, sagas)
		if ok && (!good || modelOf(x, append(slices.Clip(h), n)).good) {
			h = append(h, n)
		}
	}
	return h
}

func TestAnyHistories(t *testing.T) {
	var good, straight balance
	for seed := range 3000 {
		r := rand.New(rand.NewSource(int64(seed)))
		x := anyCatalogue(r)
		m := as(t, x, anyHistory(r, x, 2+r.Intn(14), false))
		good.add(m.good)
		if m.good {
			straight.add(slices.IsSorted(m.order))
		}
	}
	good.held(t, 300)
	straight.held(t, 100)
}

// TestOrderIsAlongArcs: each node is in the order once, behind all from which arcs lead to it.
func TestOrderIsAlongArcs(t *testing.T) {
	for seed := range 200 {
		r := rand.New(rand.NewSource(int64(seed)))
		x := anyCatalogue(r)
		h := anyHistory(r, x, 20, true)
		place := make([]int, len(h))
		order := Order(x, h)
		for i, k := range order {
			place[k] = i + 1
		}
		if len(order) != len(h) || slices.Contains(place, 0) {
			t.Fatalf("of %d nodes: %v", len(h), order)
		}
		for _, a := range Arcs(x, h) {
			if place[a.From] >= place[a.To] {
				t.Fatalf("the arc %v, in %v", a, order)
			}
		}
	}
}

// TestArcsRise: each once, by From, To and Kind.
func TestArcsRise(t *testing.T) {
	for seed := range 300 {
		r := rand.New(rand.NewSource(int64(seed)))
		x := anyCatalogue(r)
		h := anyHistory(r, x, 16, false)
		l := Arcs(x, h)
		for i, a := range l {
			if a.From < 0 || a.From >= len(h) || a.To < 0 || a.To >= len(h) || a.From == a.To || a.Kind < 1 || a.Kind > 4 {
				t.Fatalf("the arc %v of %d nodes", a, len(h))
			}
			if (a.Kind == api.ArcOwn) != (h[a.From].Saga == h[a.To].Saga) {
				t.Fatalf("the arc %v of %v", a, h)
			}
			at := func(a api.Arc) int { return a.From*10000 + a.To*10 + a.Kind }
			if i > 0 && at(l[i-1]) >= at(a) {
				t.Fatalf("%v ahead of %v", l[i-1], a)
			}
		}
	}
}

// P16.3: Next.

func TestNext(t *testing.T) {
	for _, c := range []struct {
		breaks, h, n string
		want         bool
	}{
		{"", "", "0a0", true}, {"", "", "3c0r5w6", true}, {"", "1a0", "1a1", true}, {"", "1a0", "2a0", true}, {"", "1a0", "1a0'", true},
		// It may not come.
		{"", "", "0a1", false}, {"", "", "0a0'", false}, {"", "", "-1a0", false}, {"", "", "0e0", false}, {"", "", "0a3", false}, {"", "1a0", "1a0", false}, {"", "1a0", "1a2", false}, {"", "1a0", "1b1", false},
		{"", "1a0", "2a1", false}, {"", "1a0", "1a1'", false}, {"", "1a0 1a0'", "1a1", false}, {"", "1a0 1a0'", "1a0'", false}, {"", "1c0", "1c1", false}, {"", "1c0 2c0", "1c0w5", false},
		// It closes a cycle, or doesn't, for breakpoints or for its keys.
		{"", "1b0w5 2b0w5 2b1w6", "1b1w6", false}, {"bb1", "1b0w5 2b0w5 2b1w6", "1b1w6", true}, {"bc1", "1b0w5 2b0w5 2b1w6", "1b1w6", false}, {"", "1b0w5 2b0w5 2b1w6", "1b1w7", true}, {"", "1b0w5 2b0w5 2b1w6", "1b1r6", false}, {"", "1b0w5 2b0w5 2b1w6", "1b1", true},
		{"", "1b0w5 2c0r5w6", "1b1r6", false}, {"bc1", "1b0w5 2c0r5w6", "1b1r6", true}, {"", "1b0w5 2c0r5w6", "1b1r7", true},
		{"", "1b0w5 3c0r5w6 2c0r6w7", "1b1r7", false}, {"bc1", "1b0w5 3c0r5w6 2c0r6w7", "1b1r7", true},
		{"", "1b0w5 3c0r5w6 2b0r6w7", "1b1r7", false}, {"bc1", "1b0w5 3c0r5w6 2b0r6w7", "1b1r7", false}, {"bb1", "1b0w5 3c0r5w6 2b0r6w7", "1b1r7", false}, {"bb1 bc1", "1b0w5 3c0r5w6 2b0r6w7", "1b1r7", true},
		// A unit grows by it, though it conflicts with nothing: so others stand in it.
		{"", "1b0w5 2b0r5 3c0w6 2b1r6 3c0'", "1b1", true}, {"", "1b0w5 2b0r5 2b1w7", "1b1r7", false}, {"", "1a0w5 1a1 2c0r5w6", "1a2r6", false}, {"ac2", "1a0w5 1a1 2c0r5w6", "1a2r6", true}, {"ac1", "1a0w5 1a1 2c0r5w6", "1a2r6", true},
		{"ac1", "1a0 1a1w5 2c0r5w6", "1a2r6", false}, {"", "1b0w5 2b0r5 2b1 3b0r5w6", "1b1r6", false}, {"", "1b0 2b0w5 1b1r5w6", "2b1r6", false}, {"", "1b0 2b0w5 1b1r5w6", "2b1r7", true}, {"bb1", "1b0 2b0w5 1b1r5w6", "2b1r6", true},
		// It compensates.
		{"", "1b0w5 2b0w5 2b1w6", "1b0'w6", true}, {"", "1b0w5 2c0r5w6", "1b0'r6", true}, {"", "1b0w5 2c0r5w6", "1b0'r0-999w0-999", true}, {"", "1b0w5 2c0r5w6", "2c0'r0-999w0-999", true},
		// A first step that conflicts with nothing, and one that conflicts with all.
		{"", "1b0w5 2b0w5 2b1w6", "3b0w7", true}, {"", "1b0w5 2b0w5 2b1w6", "3b0", true}, {"", "1b0w5 2b0r5 2b1w6", "3a0r0-999w0-999", true},
		// Behind a cycle nothing comes.
		{"", "1b0w5 2c0r5w6 1b1r6", "3c0", false}, {"", "1b0w5 2c0r5w6 1b1r6", "1b1'", false}, {"", "1b0w5 2c0r5w6 1b1r6", "2c0'", false}, {"bc1", "1b0w5 2c0r5w6 1b1r6", "3c0", true},
		// Behind what may not be neither.
		{"", "0a1", "1a0", false}, {"", "0a1", "0a2", false}, {"", "0a0 0a0", "0a1", false}, {"", "0e0", "1a0", false}, {"", "0a0'", "1a0", false},
	} {
		next(t, shop(c.breaks), hist(c.h), node(c.n), c.want)
		as(t, shop(c.breaks), append(hist(c.h), node(c.n)))
	}
}

func TestNextOfAnyNode(t *testing.T) {
	var good balance
	for seed := range 1500 {
		r := rand.New(rand.NewSource(int64(seed)))
		x := anyCatalogue(r)
		h := anyHistory(r, x, 1+r.Intn(12), true)
		for range 4 {
			if n, ok := anyNext(r, x, h, 6); ok {
				want := modelOf(x, append(slices.Clip(h), n)).good
				good.add(want)
				next(t, x, h, n, want)
			}
			n := api.Node{Saga: r.Intn(7) - 1, Class: r.Intn(6) - 1, Step: r.Intn(6) - 1, Back: r.Intn(3) == 0, Reads: anyKeys(r), Writes: anyKeys(r)}
			next(t, x, h, n, modelOf(x, append(slices.Clip(h), n)).good)
		}
	}
	good.held(t, 100)
}

// P16.4: what follows.

// closes tells a node of each saga that may be compensated next, with some keys.
func closes(x api.Catalogue, h []api.Node, keys []api.Span) []api.Node {
	var l []api.Node
	for _, n := range h {
		n.Reads, n.Writes, n.Back = keys, keys, true
		for n.Step = range x.Classes[n.Class].Steps {
			if units.May(x, append(slices.Clip(h), n)) {
				l = append(l, n)
			}
		}
	}
	return l
}

func TestWhatCompensatesLeavesItGood(t *testing.T) {
	asked := 0
	for seed := range 400 {
		r := rand.New(rand.NewSource(int64(seed)))
		x := anyCatalogue(r)
		h := anyHistory(r, x, 1+r.Intn(16), true)
		for _, keys := range [][]api.Span{nil, spans(0, 999), anyKeys(r)} {
			for _, n := range closes(x, h, keys) {
				asked++
				next(t, x, h, n, true)
			}
		}
		// All the way back, whoever comes first.
		for {
			l := closes(x, h, spans(0, 999))
			if len(l) == 0 {
				break
			}
			h = append(h, l[r.Intn(len(l))])
			if !Good(x, h) {
				t.Fatalf("not good: %v", h)
			}
		}
	}
	if asked < 1000 {
		t.Fatalf("the test asks too little: %d", asked)
	}
}

func TestFirstStepApartLeavesItGood(t *testing.T) {
	for seed := range 400 {
		r := rand.New(rand.NewSource(int64(seed)))
		x := anyCatalogue(r)
		h := anyHistory(r, x, r.Intn(16), true)
		for c := range x.Classes {
			next(t, x, h, api.Node{Saga: 50, Class: c}, true)
			next(t, x, h, api.Node{Saga: 50, Class: c, Reads: spans(500, 600), Writes: spans(600, 999)}, true)
			// It has no arcs at all.
			with := append(slices.Clip(h), api.Node{Saga: 50, Class: c, Reads: spans(500, 600)})
			if !slices.Equal(Arcs(x, with), Arcs(x, h)) || !slices.Equal(Order(x, with), append(Order(x, h), len(h))) {
				t.Fatalf("of %v: %v, %v", with, Arcs(x, with), Order(x, with))
			}
		}
	}
}

// TestOpenIsGood: where all may come in everywhere each history's own order is told.
func TestOpenIsGood(t *testing.T) {
	for seed := range 300 {
		r := rand.New(rand.NewSource(int64(seed)))
		x := cat.Open(anyCatalogue(r))
		h := anyHistory(r, x, 16, false)
		l := Order(x, h)
		if !Good(x, h) || len(l) != len(h) || !slices.IsSorted(l) || len(Cycle(x, h)) != 0 {
			t.Fatalf("of %v: %v", h, l)
		}
	}
}

// Wrong inputs.

func TestNothingOfWhatMayNotBe(t *testing.T) {
	for _, s := range []string{
		"0a1", "0a0'", "0a0 0a0", "0a0 0a2", "0a0 0b1", "0a0 0a1'", "0a0 0a0' 0a0'", "0a0 0a0' 0a1", "-1a0", "0e0", "0a3", "0c1", "0a-1", "0c0 0c1",
		// One that may not be behind, ahead of, and between what may, cycles too.
		"1b0w5 2c0r5w6 1b1r6 0a1", "0a1 1b0w5 2c0r5w6 1b1r6", "1b0w5 2c0r5w6 0e0 1b1r6", "1b0w5 2c0r5w6 2c0r5w6 1b1r6", "1c0w5 2c0r5 -1c0", "1c0w5 2c0r5 1c0w5",
	} {
		for _, breaks := range []string{"", "bc1 ab3"} {
			nothing(t, shop(breaks), hist(s))
		}
	}
	for _, i := range odd() {
		if i != 0 {
			nothing(t, shop(""), []api.Node{{Step: i}})
		}
		if i < 0 || i > 3 {
			nothing(t, shop(""), []api.Node{{Class: i}})
			nothing(t, shop(""), []api.Node{{Saga: 1, Writes: spans(5, 5)}, {Saga: 2, Class: i, Writes: spans(5, 5)}})
		}
		if i < 0 {
			nothing(t, shop(""), []api.Node{{Saga: i}})
		}
	}
	for _, s := range [][]api.Span{spans(5, 4), spans(-1, 5), spans(0, 1000), spans(math.MinInt, math.MaxInt), spans(1, 2, 5, 4), slices.Repeat(spans(5, 5), 41)} {
		nothing(t, shop(""), []api.Node{{Reads: s}})
		nothing(t, shop(""), []api.Node{{Saga: 1, Class: 2, Writes: spans(5, 5)}, {Saga: 2, Class: 2, Writes: s}})
		next(t, shop(""), nil, api.Node{Reads: s}, false)
		next(t, shop(""), hist("1c0"), api.Node{Writes: s}, false)
	}
}

func TestNothingOfNoCatalogue(t *testing.T) {
	for _, x := range notCatalogues() {
		for _, s := range []string{"", "0a0", "0b0", "0a0 0a1", "0a0w5 1b0w5", "1a0w5 2a0w5 2a1w6 1a1w6"} {
			nothing(t, x, hist(s))
			next(t, x, hist(s), api.Node{Saga: 9}, false)
		}
		nothing(t, x, nil)
		next(t, x, nil, api.Node{}, false)
	}
}

func TestNilAndZero(t *testing.T) {
	for _, h := range [][]api.Node{nil, {}} {
		if !Good(shop(""), h) || len(Arcs(shop(""), h)) != 0 || len(Order(shop(""), h)) != 0 || len(Cycle(shop(""), h)) != 0 {
			t.Errorf("of no nodes: %t, %v", Good(shop(""), h), Order(shop(""), h))
		}
		if !Next(shop(""), h, api.Node{}) {
			t.Error("a zero node is a first step of the first class")
		}
		nothing(t, api.Catalogue{}, h)
	}
	as(t, shop(""), []api.Node{{}})
	nothing(t, shop(""), []api.Node{{}, {}})
	nothing(t, api.Catalogue{}, []api.Node{{}})
	nothing(t, shop(""), make([]api.Node, 300000))
}

// Memory.

// spare tells a list that is the same, with spare room in which something stands.
func spare[T any](l []T, more T) []T {
	return append(slices.Clone(l), more, more, more)[:len(l)]
}

// TestLeftAsItWas: what is handed in, and its spare room.
func TestLeftAsItWas(t *testing.T) {
	for _, breaks := range []string{"", "bb1 bc1"} {
		for _, s := range []string{"", "1b0w5r7 2b0w5 2b1w6", "1b0w9w5 2c0r5r4w6 1b1r6", "2b0 1b0w5 2b1r5 1b1", "1b0w5 2c0r5 1b0'w5", "0a1 1b0", "1b0w5 0a1"} {
			tell := func() (api.Catalogue, []api.Node, api.Node) {
				x, h, n := shop(breaks), hist(s), node("1b1w6r5w2")
				for i := range h {
					h[i].Reads, h[i].Writes = spare(h[i].Reads, api.Span{Lo: 3, Hi: 3}), spare(h[i].Writes, api.Span{Lo: 4, Hi: 4})
				}
				n.Reads, n.Writes = spare(n.Reads, api.Span{Lo: 3, Hi: 3}), spare(n.Writes, api.Span{Lo: 4, Hi: 4})
				x.Classes = spare(x.Classes, api.Class{Name: "more"})
				return x, spare(h, api.Node{Saga: 77, Class: 2}), n
			}
			x, h, n := tell()
			Arcs(x, h)
			Good(x, h)
			Order(x, h)
			Cycle(x, h)
			Next(x, h, n)
			was, hist, nodeWas := tell()
			if !reflect.DeepEqual(whole(x.Classes), whole(was.Classes)) || x.Breaks != was.Breaks || !reflect.DeepEqual(wholeOf(h), wholeOf(hist)) || !reflect.DeepEqual(wholeNode(n), wholeNode(nodeWas)) {
				t.Errorf("changed: %v", wholeOf(h))
			}
		}
	}
}

// whole tells a list with its spare room.
func whole[T any](l []T) []T { return l[:cap(l)] }

// wholeNode tells a node with the spare room of its lists.
func wholeNode(n api.Node) api.Node {
	n.Reads, n.Writes = whole(n.Reads), whole(n.Writes)
	return n
}

// wholeOf tells nodes with all spare room.
func wholeOf(h []api.Node) []api.Node {
	var l []api.Node
	for _, n := range whole(h) {
		l = append(l, wholeNode(n))
	}
	return l
}

// TestAnswersAreNew: what is done to an answer, in its spare room too, changes no other one, and nothing is kept from call to call.
func TestAnswersAreNew(t *testing.T) {
	x, h := shop(""), hist("2b0 1b0w5 2b1r5 1b1")
	cycle := hist("1b0w5 2c0r5w6 1b1r6")
	for range 3 {
		a, o, c := Arcs(x, h), Order(x, h), Cycle(x, cycle)
		b, p, d := Arcs(x, h), Order(x, h), Cycle(x, cycle)
		clear(whole(a))
		clear(whole(o))
		clear(whole(c))
		if !slices.Equal(b, arcs("0-2o 1-0b 1-2d 1-3o 3-2f")) || !slices.Equal(p, numbers("1 0 3 2")) || !slices.Equal(d, numbers("0 1 2")) {
			t.Fatalf("changed: %v, %v, %v", b, p, d)
		}
		as(t, x, h)
		as(t, x, cycle)
	}
	// The history, and the catalogue, are others now.
	h[2].Reads[0] = api.Span{Lo: 9, Hi: 9}
	if m := as(t, x, h); !slices.Equal(m.arcs, arcs("0-2o 1-3o")) {
		t.Errorf("with another key: %v", m.arcs)
	}
	h[2].Reads[0] = api.Span{Lo: 5, Hi: 5}
	x.Breaks[1][1] = 1
	if m := as(t, x, h); !slices.Equal(m.arcs, arcs("0-2o 1-2dfb 1-3o")) {
		t.Errorf("with a breakpoint: %v", m.arcs)
	}
}
