package witness

import (
	"iter"
	"math"
	"math/rand"
	"reflect"
	"regexp"
	"slices"
	"strconv"
	"strings"
	"testing"

	"gimmal/api"
	"gimmal/cat"
	"gimmal/rsg"
	"gimmal/units"
)

// The model: what the document's words say, done plainly. Each two nodes are asked which one is ahead, each node and each unit who stands where.

// spansMeet tells whether two lists of spans, that may be, have a key in common.
func spansMeet(a, b []api.Span) bool {
	for _, s := range a {
		for _, o := range b {
			if max(s.Lo, o.Lo) <= min(s.Hi, o.Hi) {
				return true
			}
		}
	}
	return false
}

// inConflict tells whether two nodes conflict.
func inConflict(a, b api.Node) bool {
	one := spansMeet(a.Writes, b.Reads) || spansMeet(a.Writes, b.Writes) || spansMeet(a.Reads, b.Writes)
	return a.Saga != b.Saga && one
}

// inOneUnit tells whether two nodes are in one unit relative to a class.
func inOneUnit(x api.Catalogue, a, b api.Node, d int) bool {
	if a.Saga != b.Saga || a.Back || b.Back {
		return false
	}
	for s := min(a.Step, b.Step); s < max(a.Step, b.Step); s++ {
		if x.Breaks[a.Class][d]>>s%2 == 1 {
			return false
		}
	}
	return true
}

// model is what the words say of a catalogue and a history: whether that may be; of each two nodes whether the first one is to stay ahead of the second one, and whether it depends on it; of each node and class the nodes of its unit.
type model struct {
	h      []api.Node
	may    bool
	stay   [][]bool
	on     [][]bool
	united [][api.MaxClasses][]int
}

// square tells so many rows of so many.
func square(n int) [][]bool {
	all := make([][]bool, n)
	for i := range all {
		all[i] = make([]bool, n)
	}
	return all
}

func modelOf(x api.Catalogue, h []api.Node) model {
	if !units.May(x, h) {
		return model{h: h}
	}
	m := model{h: h, may: true, stay: square(len(h)), on: square(len(h)), united: make([][api.MaxClasses][]int, len(h))}
	for i, n := range h {
		for k, o := range h {
			m.stay[i][k] = i < k && (n.Saga == o.Saga || inConflict(n, o))
			m.on[k][i] = m.stay[i][k]
			for d := range x.Classes {
				if i == k || inOneUnit(x, n, o, d) {
					m.united[i][d] = append(m.united[i][d], k)
				}
			}
		}
	}
	for by := range h {
		for i := range h {
			for k := range h {
				m.on[i][k] = m.on[i][k] || m.on[i][by] && m.on[by][k]
			}
		}
	}
	return m
}

// is tells whether a list is an order.
func (m model) is(order []int) bool {
	all := slices.Sorted(slices.Values(order))
	for i, k := range all {
		if i != k {
			return false
		}
	}
	return m.may && len(all) == len(m.h)
}

// keeps tells whether an order keeps the history.
func (m model) keeps(order []int) bool {
	if !m.is(order) {
		return false
	}
	for p, k := range order {
		for _, i := range order[:p] {
			if m.stay[k][i] {
				return false
			}
		}
	}
	return true
}

// fair tells whether an order is fair.
func (m model) fair(order []int) bool {
	if !m.keeps(order) {
		return false
	}
	for p, o := range order {
		for u, n := range m.h {
			unit := m.united[u][m.h[o].Class]
			here := func(k int) bool { return slices.Contains(unit, k) }
			bound := func(k int) bool { return m.on[o][k] || m.on[k][o] }
			if n.Saga != m.h[o].Saga && slices.ContainsFunc(order[:p], here) && slices.ContainsFunc(order[p:], here) && slices.ContainsFunc(unit, bound) {
				return false
			}
		}
	}
	return true
}

// ordersOf yields all orders of so many numbers.
func ordersOf(n int) iter.Seq[[]int] {
	return func(yield func([]int) bool) {
		var l []int
		var more func() bool
		more = func() bool {
			if len(l) == n {
				return yield(slices.Clone(l))
			}
			for i := range n {
				if slices.Contains(l, i) {
					continue
				}
				l = append(l, i)
				if !more() {
					return false
				}
				l = l[:len(l)-1]
			}
			return true
		}
		more()
	}
}

// What is asked.

// steps tells a closed catalogue of classes of so many steps.
func steps(l ...int) api.Catalogue {
	do := api.Step{Code: []api.Instr{{Op: api.OpSet, A: 1, X: 7}}}
	var x api.Catalogue
	for i, n := range l {
		x.Classes = append(x.Classes, api.Class{Name: string(rune('a' + i)), Steps: slices.Repeat([]api.Step{do}, n), Comps: make([]api.Step, n)})
	}
	return x
}

// broken tells a catalogue with the breakpoints of words such as ab3: of the class a to the class b the bits of 3.
func broken(x api.Catalogue, words string) api.Catalogue {
	for _, s := range strings.Fields(words) {
		b, err := strconv.Atoi(s[2:])
		if err != nil {
			panic(err)
		}
		x.Breaks[s[0]-'a'][s[1]-'a'] = b
	}
	return x
}

// shop tells a catalogue of classes of 3, 2, 1 and 4 steps, with some breakpoints.
func shop(breaks string) api.Catalogue { return broken(steps(3, 2, 1, 4), breaks) }

// notCatalogues tells catalogues that may not be, each for one reason.
func notCatalogues() []api.Catalogue {
	l := []api.Catalogue{{}, steps(2, 2, 2, 2, 2), steps(4, 0), steps(4, 5), broken(steps(2, 2), "aa2"), broken(steps(2, 2), "ab-1"), broken(steps(2, 2), "ac1"), broken(steps(2, 2), "dd1")}
	twice, noName, noComp, noCode := steps(4, 2), steps(4, 2), steps(4, 2), steps(4, 2)
	twice.Classes[1].Name = "a"
	noName.Classes[1].Name = ""
	noComp.Classes[1].Comps = nil
	noCode.Classes[0].Steps[3].Code = nil
	return append(l, twice, noName, noComp, noCode)
}

// spans tells the spans of their ends.
func spans(ends ...int) []api.Span {
	var l []api.Span
	for e := range slices.Chunk(ends, 2) {
		l = append(l, api.Span{Lo: e[0], Hi: e[1]})
	}
	return l
}

var (
	word = regexp.MustCompile(`^(-?\d+)([a-z])(-?\d+)('?)((?:[rw]\d+(?:-\d+)?)*)$`)
	part = regexp.MustCompile(`([rw])(\d+)(?:-(\d+))?`)
)

// node tells a node of a word such as 12b0'r5w6-7: the step 0 of the saga 12, of the class 1, is compensated; 5 is read, 6 and 7 are written.
func node(s string) api.Node {
	m := word.FindStringSubmatch(s)
	if m == nil {
		panic(s)
	}
	saga, _ := strconv.Atoi(m[1])
	step, _ := strconv.Atoi(m[3])
	n := api.Node{Saga: saga, Class: int(m[2][0] - 'a'), Step: step, Back: m[4] != ""}
	for _, p := range part.FindAllStringSubmatch(m[5], -1) {
		lo, _ := strconv.Atoi(p[2])
		hi := lo
		if p[3] != "" {
			hi, _ = strconv.Atoi(p[3])
		}
		if p[1] == "r" {
			n.Reads = append(n.Reads, spans(lo, hi)...)
		} else {
			n.Writes = append(n.Writes, spans(lo, hi)...)
		}
	}
	return n
}

// hist tells the nodes of words.
func hist(words string) []api.Node {
	var l []api.Node
	for _, s := range strings.Fields(words) {
		l = append(l, node(s))
	}
	return l
}

// numbers tells the numbers of a text.
func numbers(words string) []int {
	var l []int
	for _, s := range strings.Fields(words) {
		n, err := strconv.Atoi(s)
		if err != nil {
			panic(s)
		}
		l = append(l, n)
	}
	return l
}

// odd tells numbers that are no class, and no step, whatever the catalogue, and those around the ones that are.
func odd() []int {
	return []int{math.MinInt, math.MinInt + 1, -5, -1, 0, 1, 2, 3, 4, 5, 6, 63, 64, 65, 99, 100, 101, 1 << 32, math.MaxInt - 1, math.MaxInt}
}

// said sees to it that of an order is told what the model tells, and tells that.
func said(t *testing.T, x api.Catalogue, m model, order []int) (keeps, fair bool) {
	t.Helper()
	keeps, fair = m.keeps(order), m.fair(order)
	if Keeps(x, m.h, order) != keeps {
		t.Fatalf("Keeps(%v, %v) isn't %t", m.h, order, keeps)
	}
	if Fair(x, m.h, order) != fair {
		t.Fatalf("Fair(%v, %v) isn't %t", m.h, order, fair)
	}
	return keeps, fair
}

// found sees to it what Find tells of a history, if there is a fair order, and if there is none.
func found(t *testing.T, x api.Catalogue, m model, fair bool) {
	t.Helper()
	l, ok := Find(x, m.h)
	if ok != fair || fair && !m.fair(l) || !fair && len(l) != 0 {
		t.Fatalf("Find(%v): %v, %t, not %t", m.h, l, ok, fair)
	}
	if rsg.Good(x, m.h) != fair {
		t.Fatalf("the graph of %v isn't good: %t", m.h, fair)
	}
}

// all sees to it that of all orders of a history is told what the model tells, and of the history what follows; it tells how many orders keep it, and how many are fair.
func all(t *testing.T, x api.Catalogue, h []api.Node) (keep, fair int) {
	t.Helper()
	m := modelOf(x, h)
	for order := range ordersOf(len(h)) {
		k, f := said(t, x, m, order)
		if k {
			keep++
		}
		if f {
			fair++
		}
	}
	if Search(x, h) != (fair > 0 && len(h) <= 7) {
		t.Fatalf("Search(%v), of %d fair orders", h, fair)
	}
	found(t, x, m, fair > 0)
	return keep, fair
}

// nothing sees to it that there is nothing of what may not be.
func nothing(t *testing.T, x api.Catalogue, h []api.Node) {
	t.Helper()
	var order []int
	for i := range h {
		order = append(order, i)
	}
	m := modelOf(x, h)
	if k, _ := said(t, x, m, order); m.may || k {
		t.Fatalf("%v may be", h)
	}
	for _, l := range [][]int{nil, order[:len(h)/2], append(slices.Clone(order), 0), append(slices.Clone(order), len(h))} {
		said(t, x, m, l)
	}
	if Search(x, h) {
		t.Fatalf("Search(%v)", h)
	}
	found(t, x, m, false)
}

// P17.1: what is told of an order, written out.

// one is an order of a history of the shop, and whether it keeps that, and is fair.
type one struct {
	breaks, h, order string
	keeps, fair      bool
}

// check sees to it that what is told of orders is as it is written out; the model, too, must say so.
func check(t *testing.T, cases []one) {
	t.Helper()
	for _, c := range cases {
		k, f := said(t, shop(c.breaks), modelOf(shop(c.breaks), hist(c.h)), numbers(c.order))
		if k != c.keeps || f != c.fair {
			t.Errorf("the order %s of %s, %s: %t, %t", c.order, c.breaks, c.h, k, f)
		}
	}
}

// TestExample: the chapter's.
func TestExample(t *testing.T) {
	h := "1b0w5 2b0w5 1b1w6 2b1w7"
	check(t, []one{
		{"", h, "0 2 1 3", true, true}, {"", h, "0 1 2 3", true, false}, {"", h, "0 1 3 2", true, false},
		{"", h, "1 0 2 3", false, false}, {"", h, "2 0 1 3", false, false}, {"", h, "3 2 1 0", false, false}, {"", h, "0 2 3 1", false, false},
		{"bb1", h, "0 1 2 3", true, true}, {"bb1", h, "0 1 3 2", true, true}, {"bb1", h, "0 2 1 3", true, true},
	})
}

func TestNoneAndOneSaga(t *testing.T) {
	for _, breaks := range []string{"", "aa3 bb1 dd7"} {
		check(t, []one{
			{breaks, "", "", true, true}, {breaks, "", "0", false, false},
			{breaks, "0a0", "0", true, true}, {breaks, "7c0r5w5", "0", true, true}, {breaks, "9223372036854775807d0w0-999", "0", true, true}, {breaks, "0a0", "", false, false}, {breaks, "0a0", "1", false, false}, {breaks, "0a0", "0 0", false, false},
			{breaks, "1a0 1a1", "0 1", true, true}, {breaks, "1a0 1a1", "1 0", false, false}, {breaks, "1a0w5 1a1r5 1a2w5", "0 1 2", true, true}, {breaks, "1a0w5 1a1r5 1a2w5", "0 2 1", false, false},
			{breaks, "1d0 1d1 1d2 1d3", "0 1 2 3", true, true}, {breaks, "1d0 1d1 1d2 1d3", "3 0 1 2", false, false}, {breaks, "1d0 1d1 1d2 1d3", "1 2 3 0", false, false},
			{breaks, "1b0w5 1b1 1b1'w5 1b0'", "0 1 2 3", true, true}, {breaks, "1b0w5 1b1 1b1'w5 1b0'", "0 1 3 2", false, false}, {breaks, "1b0w5 1b1 1b1'w5 1b0'", "0 2 1 3", false, false},
		})
	}
}

// TestNoOrders: too short, too long, with a number twice, below zero, or that no node has.
func TestNoOrders(t *testing.T) {
	for _, h := range []string{"1c0 2c0 3c0 4c0", "1b0w5 2b0w5 1b1w6 2b1w7", "1d0 1d1 1d2 1d3"} {
		for _, order := range []string{
			"", "0", "1", "0 1", "0 2 1", "1 2 3", "0 1 2 3 4", "0 1 2 3 3", "0 2 1 3 0", "0 0 2 1 3", "0 1 2 3 -1", "-1 0 1 2 3",
			"0 0 0 0", "0 1 1 3", "0 1 2 2", "0 0 1 2", "0 2 1 0", "1 2 3 3", "3 1 2 3",
			"0 1 2 -1", "-1 0 1 2", "0 -1 2 3", "-4 -3 -2 -1", "0 -2 1 3", "0 2 1 -9223372036854775808",
			"0 1 2 4", "1 2 3 4", "4 1 2 3", "0 2 1 4", "0 2 1 100", "0 2 1 99", "0 2 1 101", "0 2 1 9223372036854775807", "0 2 1 4294967299", "5 2 1 3",
		} {
			check(t, []one{{"", h, order, false, false}, {"bb1 dd7", h, order, false, false}})
		}
	}
	m := modelOf(shop(""), hist("1c0 2c0 3c0"))
	for _, i := range odd() {
		for p := range 3 {
			order := []int{0, 1, 2}
			order[p] = i
			said(t, shop(""), m, order)
			said(t, shop(""), m, append([]int{0, 1, 2}, i))
		}
	}
	if k, f := said(t, shop(""), m, slices.Repeat([]int{0}, 300000)); k || f {
		t.Error("of very many numbers")
	}
}

// TestTurnedRound: two nodes of one saga, two that conflict, and two that do neither.
func TestTurnedRound(t *testing.T) {
	check(t, []one{
		{"", "1c0 2c0", "1 0", true, true}, {"", "1c0r5 2c0r5", "1 0", true, true}, {"", "1c0w5 2c0w6r4", "1 0", true, true}, {"", "2c0w1-4 1c0r5-9", "1 0", true, true},
		{"", "1c0w5 2c0r5", "0 1", true, true}, {"", "1c0w5 2c0r5", "1 0", false, false}, {"", "1c0r5 2c0w5", "1 0", false, false}, {"", "1c0w5 2c0w5", "1 0", false, false}, {"", "2c0w1-5 1c0r5-9", "1 0", false, false},
		{"cc0", "1a0w5 2d0r5", "1 0", false, false}, {"ad3 da7", "1a0w5 2d0r5", "1 0", false, false},
		{"", "1b0 1b1", "1 0", false, false}, {"bb1", "1b0 1b1", "1 0", false, false}, {"", "1b0 2c0 1b1", "2 1 0", false, false}, {"", "1b0 1b0'", "1 0", false, false},
		// Two that are far from each other, in the history or in the order.
		{"", "1c0w5 2c0 3c0 4c0r5", "0 1 2 3", true, true}, {"", "1c0w5 2c0 3c0 4c0r5", "2 1 0 3", true, true}, {"", "1c0w5 2c0 3c0 4c0r5", "3 0 1 2", false, false}, {"", "1c0w5 2c0 3c0 4c0r5", "1 2 3 0", false, false}, {"", "1c0w5 2c0 3c0 4c0r5", "1 3 0 2", false, false},
		{"", "1c0w5 2c0 3c0 4c0r5", "3 1 2 0", false, false}, {"", "2c0 1c0w5 4c0r5 3c0", "3 1 2 0", true, true}, {"", "2c0 1c0w5 4c0r5 3c0", "3 2 1 0", false, false}, {"", "2c0 1c0w5 4c0r5 3c0", "2 3 0 1", false, false},
		// The first ones are right, the last ones are turned round.
		{"", "1c0w5 2c0r5 3c0w6 4c0r6", "0 1 2 3", true, true}, {"", "1c0w5 2c0r5 3c0w6 4c0r6", "2 3 0 1", true, true}, {"", "1c0w5 2c0r5 3c0w6 4c0r6", "2 0 3 1", true, true}, {"", "1c0w5 2c0r5 3c0w6 4c0r6", "0 1 3 2", false, false}, {"", "1c0w5 2c0r5 3c0w6 4c0r6", "1 0 2 3", false, false},
		// By way of a third one: it stays between.
		{"", "1c0w5 2c0r5w6 3c0r6", "0 1 2", true, true}, {"", "1c0w5 2c0r5w6 3c0r6", "0 2 1", false, false}, {"", "1c0w5 2c0r5w6 3c0r6", "1 0 2", false, false}, {"", "1c0w5 2c0r5w6 3c0r6", "2 0 1", false, false},
		// Readers of one key turn, but not round the writers.
		{"", "1c0w5 2c0r5 3c0r5 4c0w5", "0 2 1 3", true, true}, {"", "1c0w5 2c0r5 3c0r5 4c0w5", "0 2 3 1", false, false}, {"", "1c0w5 2c0r5 3c0r5 4c0w5", "3 1 2 0", false, false}, {"", "1c0w5 2c0r5 3c0r5 4c0w5", "2 0 1 3", false, false},
	})
}

// TestComesIn: a node of another saga between two of a unit of three depends on one of it, the one next to it or another one, or one of it depends on that node, or it is apart.
func TestComesIn(t *testing.T) {
	onFirst, onSecond, secondOn, thirdOn := "1a0w5 2c0r5 1a1 1a2", "1a0 1a1w5 2c0r5 1a2", "1a0 2c0w5 1a1r5 1a2", "1a0 2c0w5 1a1 1a2r5"
	for _, breaks := range []string{"", "aa3", "ab3 ad3", "aa3 ab3 ad3 ba1 da7 db7 dc7 dd7"} {
		check(t, []one{
			{breaks, onFirst, "0 1 2 3", true, false}, {breaks, onFirst, "0 2 1 3", true, false}, {breaks, onFirst, "0 2 3 1", true, true},
			{breaks, onSecond, "0 1 2 3", true, false}, {breaks, onSecond, "0 1 3 2", true, true}, {breaks, onSecond, "0 2 1 3", false, false},
			{breaks, secondOn, "0 1 2 3", true, false}, {breaks, secondOn, "1 0 2 3", true, true}, {breaks, secondOn, "0 2 1 3", false, false},
			{breaks, thirdOn, "0 1 2 3", true, false}, {breaks, thirdOn, "0 2 1 3", true, false}, {breaks, thirdOn, "1 0 2 3", true, true}, {breaks, thirdOn, "0 2 3 1", false, false},
		})
		for p, order := range []string{"1 0 2 3", "0 1 2 3", "0 2 1 3", "0 2 3 1"} {
			check(t, []one{{breaks, "1a0 2c0 1a1 1a2", order, true, true}, {breaks, "1a0w5r9 2c0w6r8r9 1a1w5 1a2r9w7", order, true, true}, {breaks, "1a0w5 2c0r5 1a1 1a2", order, p > 0, p == 3}})
		}
		// On both sides.
		check(t, []one{{breaks, "1a0w5 2c0r5w6 1a1r6 1a2", "0 1 2 3", true, false}, {breaks, "1a0w5 2c0r5w6 1a1 1a2r6", "0 1 2 3", true, false}, {breaks, "1a0w5 2c0r5w6 1a1 1a2r6", "0 2 1 3", true, false}})
	}
	// It has all of a longer unit ahead of it, or behind it, but one.
	check(t, []one{
		{"", "1d0w5 2c0r5 1d1 1d2 1d3", "0 2 3 1 4", true, false}, {"", "1d0w5 2c0r5 1d1 1d2 1d3", "0 2 3 4 1", true, true}, {"", "1d0 2c0w5 1d1 1d2 1d3r5", "0 1 2 3 4", true, false}, {"", "1d0 2c0w5 1d1 1d2 1d3r5", "0 2 3 1 4", true, false}, {"", "1d0 2c0w5 1d1 1d2 1d3r5", "1 0 2 3 4", true, true},
		{"", "1d0 1d1w5 2c0r5 1d2 1d3", "0 1 3 2 4", true, false}, {"", "1d0 1d1w5 2c0r5 1d2 1d3", "0 1 3 4 2", true, true}, {"", "1d0 2c0w5 1d1 1d2r5 1d3", "0 2 1 3 4", true, false}, {"", "1d0 2c0w5 1d1 1d2r5 1d3", "1 0 2 3 4", true, true},
	})
	// A unit has the nodes that are there, in part alone.
	check(t, []one{{"", "1d0w5 2c0r5 1d1", "0 1 2", true, false}, {"", "1d0w5 2c0r5 1d1", "0 2 1", true, true}, {"", "1d0w5 2c0r5", "0 1", true, true}, {"", "1d0 2c0w5 1d1r5", "0 1 2", true, false}, {"", "1d0 2c0w5 1d1r5", "1 0 2", true, true}})
}

// TestComesInByWay: who stands in a unit is tied to it by way of a third saga, that may come in, or stands outside.
func TestComesInByWay(t *testing.T) {
	on, by := "1a0w5 3d0r5w6 2c0r6 1a1 1a2", "1a0 2c0w6 3d0r6w5 1a1 1a2r5"
	check(t, []one{
		{"ad3", on, "0 1 2 3 4", true, false}, {"ad3", on, "0 1 3 2 4", true, false}, {"ad3", on, "0 3 1 2 4", true, false}, {"ad3", on, "0 1 3 4 2", true, true}, {"ad3", on, "0 3 4 1 2", true, true},
		{"ac3", on, "0 1 2 3 4", true, false}, {"ac3", on, "0 3 4 1 2", true, true}, {"ac3 ad3", on, "0 1 2 3 4", true, true}, {"", on, "0 1 3 4 2", true, false}, {"ca0 ba1", on, "0 3 4 1 2", true, true},
		{"ad3", by, "0 1 2 3 4", true, false}, {"ad3", by, "1 0 2 3 4", true, true}, {"ad3", by, "1 0 3 2 4", true, true}, {"ad3", by, "0 3 1 2 4", true, false}, {"", by, "1 0 2 3 4", true, false}, {"", by, "1 2 0 3 4", true, true}, {"ac3", by, "1 0 2 3 4", true, false}, {"ac3 ad3", by, "0 1 2 3 4", true, true},
		// By way of a saga whose other node it is.
		{"ac3", "1a0w5 3b0r5 3b1w6 2c0r6 1a1", "0 1 2 3 4", true, false}, {"ab3", "1a0w5 3b0r5 3b1w6 2c0r6 1a1", "0 1 2 3 4", true, false}, {"ab3", "1a0w5 3b0r5 3b1w6 2c0r6 1a1", "0 1 4 2 3", true, true}, {"ab3 ac3", "1a0w5 3b0r5 3b1w6 2c0r6 1a1", "0 1 2 3 4", true, true},
		// The other node of its own saga is tied to the unit: so is the one behind it, but not the one ahead of it.
		{"", "1a0w5 2b0r5 2b1 1a1", "0 1 2 3", true, false}, {"", "1a0w5 2b0r5 2b1 1a1", "0 3 1 2", true, true}, {"", "1a0w5 2b0 2b1r5 1a1", "1 0 3 2", true, false}, {"", "2b0 1a0w5 2b1r5 1a1", "1 0 3 2", true, true}, {"", "2b0 1a0w5 2b1r5 1a1", "1 3 0 2", true, true},
		{"ba1", "2b0 1a0w5 2b1r5 1a1", "1 0 3 2", true, true}, {"ba1", "2b0 1a0w5 2b1r5 1a1", "0 1 3 2", true, true}, {"ba1", "2b0 1a0w5 2b1r5 1a1", "0 1 2 3", true, false},
		{"ba1", "1a0 2b0 2b1w5 1a1r5", "1 0 2 3", true, false}, {"ba1", "1a0 2b0w5 2b1 1a1r5", "1 0 3 2", true, true}, {"", "1a0 2b0w5 2b1 1a1r5", "1 0 3 2", true, false}, {"ba1", "1a0 2b0w5 2b1 1a1r5", "1 0 2 3", true, true}, {"", "1a0 2b0w5 2b1 1a1r5", "1 0 2 3", true, true},
		{"", "1a0 2b0w5 2b1 1a1r5", "1 2 0 3", true, true}, {"", "1a0 2b0w5 2b1 1a1r5", "0 1 2 3", true, false},
	})
}

// TestTwoUnits: each stands in the other one, or one in the other one.
func TestTwoUnits(t *testing.T) {
	check(t, []one{
		{"", "1b0 2b0 1b1 2b1", "0 1 2 3", true, true}, {"", "1b0 2b0 1b1 2b1", "0 1 3 2", true, true}, {"", "1b0w5 2b0w6 1b1r5 2b1r6", "0 1 2 3", true, true},
		{"", "1b0w5 2b0 1b1 2b1r5", "0 1 2 3", true, true}, {"", "1b0w5 2b0 1b1 2b1r5", "1 0 2 3", true, false}, {"", "1b0w5 2b0 1b1 2b1r5", "0 2 1 3", true, true}, {"", "1b0w5 2b0 1b1 2b1r5", "1 0 3 2", true, false}, {"", "1b0w5 2b0 1b1 2b1r5", "0 1 3 2", true, false},
		// Of two classes, of which one lets the other one in.
		{"ad3", "1a0w5 2d0r5 1a1 2d1", "0 1 2 3", true, true}, {"da7", "1a0w5 2d0r5 1a1 2d1", "0 1 2 3", true, false}, {"ad3 da7", "1a0w5 2d0r5 1a1 2d1", "0 1 2 3", true, true}, {"ad3", "1a0w5 2d0r5 1a1 2d1", "0 1 3 2", true, true}, {"da7", "1a0w5 2d0r5 1a1 2d1", "0 2 1 3", true, true},
		// Three sagas, of which one alone stands where it may not.
		{"", "1b0 2b0w5 3b0 3b1 2b1 1b1r5", "1 4 0 2 3 5", true, true}, {"", "1b0 2b0w5 3b0 3b1 2b1 1b1r5", "0 1 2 3 4 5", true, false}, {"", "1b0 2b0w5 3b0 3b1 2b1 1b1r5", "2 1 3 4 0 5", true, true},
		{"", "1c0 2b0w5 3c0r5 2b1 4b0w6 4b1r6 5c0", "0 1 2 3 4 5 6", true, false}, {"", "1c0 2b0w5 3c0r5 2b1 4b0w6 4b1r6 5c0", "0 1 3 2 4 5 6", true, true}, {"", "1c0 2b0w5 3c0r5 2b1 4b0w6 4b1r6 5c0", "1 0 4 3 5 6 2", true, true},
	})
}

// TestUnitOfItsClass: units are relative to the class of the one that comes in, not to another one, and its own class' breakpoints don't count.
func TestUnitOfItsClass(t *testing.T) {
	on, by := "1a0w5 2c0r5 1a1 1a2", "1a0 1a1 2c0w5 1a2r5"
	check(t, []one{
		// Behind the step 0: it may stand there, and in the second unit, too, of which it depends on no node.
		{"ac1", on, "0 1 2 3", true, true}, {"ac1", on, "0 2 1 3", true, true}, {"ac1", on, "0 2 3 1", true, true},
		{"ac2", on, "0 1 2 3", true, false}, {"ac2", on, "0 2 1 3", true, true}, {"ac2", on, "0 2 3 1", true, true}, {"ac3", on, "0 1 2 3", true, true}, {"ac3", on, "0 2 1 3", true, true},
		{"ac1", by, "0 1 2 3", true, false}, {"ac1", by, "0 2 1 3", true, true}, {"ac1", by, "2 0 1 3", true, true}, {"ac2", by, "0 1 2 3", true, true}, {"ac2", by, "0 2 1 3", true, true}, {"ac3", by, "0 1 2 3", true, true},
		// Of others.
		{"aa3 ab3 ad3 bc1 dc7", on, "0 1 2 3", true, false}, {"aa3 ab3 ad3 bc1 dc7", on, "0 2 1 3", true, false}, {"aa3 ab3 ad3 bc1 dc7", by, "0 1 2 3", true, false}, {"ab2 ac1", on, "0 1 2 3", true, true}, {"ab1 ac2", on, "0 1 2 3", true, false},
		// Two come in, each relative to its own.
		{"ac1", "1a0w5 2c0r5 3b0r5 1a1", "0 1 2 3", true, false}, {"ac1", "1a0w5 2c0r5 3b0r5 1a1", "0 1 3 2", true, true}, {"ac1", "1a0w5 2c0r5 3b0r5 1a1", "0 2 3 1", true, false},
		{"ab1", "1a0w5 2c0r5 3b0r5 1a1", "0 1 2 3", true, false}, {"ab1", "1a0w5 2c0r5 3b0r5 1a1", "0 2 3 1", true, true}, {"ab1", "1a0w5 2c0r5 3b0r5 1a1", "0 1 3 2", true, false}, {"ab1 ac1", "1a0w5 2c0r5 3b0r5 1a1", "0 1 2 3", true, true},
		// Of one's own class.
		{"", "1a0w5 2a0r5 1a1", "0 1 2", true, false}, {"aa1", "1a0w5 2a0r5 1a1", "0 1 2", true, true}, {"aa2", "1a0w5 2a0r5 1a1", "0 1 2", true, false}, {"ab3 ac3 ad3", "1a0w5 2a0r5 1a1", "0 1 2", true, false},
	})
	// Each breakpoint of four steps, at each place.
	for bits := range 8 {
		for p := 1; p < 5; p++ {
			order := slices.Insert([]int{0, 2, 3, 4}, p, 1)
			// Depending on the step 0, it may stand behind that one's unit.
			m := modelOf(shop("dc"+strconv.Itoa(bits)), hist("1d0w5 2c0r5 1d1 1d2 1d3"))
			if _, fair := said(t, shop("dc"+strconv.Itoa(bits)), m, order); fair != (p == 4 || bits&(1<<p-1) != 0) {
				t.Errorf("the breakpoints %d, the order %v: %t", bits, order, fair)
			}
		}
	}
}

// TestCompensated: what compensates is a unit alone; it may not come in itself where the class may not.
func TestCompensated(t *testing.T) {
	check(t, []one{
		{"", "1b0w5 2c0r5 1b0'w5", "0 1 2", true, true}, {"", "1b0w5 2c0r5 1b0'", "0 2 1", true, true}, {"", "1b0w5 2c0r5w6 1b0'r6", "0 1 2", true, true}, {"", "1b0w5 2c0r5 1b0'w5", "0 2 1", false, false},
		{"", "1b0w5 2c0r5 1b1 1b1' 1b0'", "0 1 2 3 4", true, false}, {"", "1b0w5 2c0r5 1b1 1b1' 1b0'", "0 2 1 3 4", true, true}, {"", "1b0w5 2c0r5 1b1 1b1' 1b0'", "0 2 3 1 4", true, true}, {"", "1b0w5 2c0r5 1b1 1b1' 1b0'", "0 2 3 4 1", true, true},
		{"", "1b0 1b1 1b1'w5 2c0r5w6 1b0'r6", "0 1 2 3 4", true, true}, {"", "1b0 1b1 2c0w5 1b1'r5 1b0'", "0 1 2 3 4", true, true}, {"", "1b0 1b1 2c0w5 1b1'r5 1b0'", "0 2 1 3 4", true, true}, {"", "1b0 1b1w7 2c0w5r7 1b1'r5 1b0'", "0 1 2 3 4", true, true},
		{"", "1a0w5 2c0r5 1a1 1a1'", "0 1 2 3", true, false}, {"", "1a0w5 1a1 1a1' 2c0r5 1a0'w5", "0 1 2 3 4", true, true}, {"", "1a0w5 1a1 1a1' 2c0r5 1a0'w5", "0 1 3 2 4", true, true}, {"", "1a0w5 1a1 1a1' 2c0r5 1a0'w5", "0 3 1 2 4", true, false},
		// It comes in.
		{"", "1b0 2c0w5 2c0'w6 1b1r6", "0 1 2 3", true, false}, {"", "1b0 2c0w5 2c0'w6 1b1r6", "1 0 2 3", true, false}, {"", "1b0 2c0w5 2c0'w6 1b1r6", "1 2 0 3", true, true}, {"bc1", "1b0 2c0w5 2c0'w6 1b1r6", "0 1 2 3", true, true}, {"bb1", "1b0 2c0w5 2c0'w6 1b1r6", "0 1 2 3", true, false},
		{"", "2c0 1b0w5 2c0'r5 1b1", "0 1 2 3", true, false}, {"", "2c0 1b0w5 2c0'r5 1b1", "0 1 3 2", true, true}, {"", "2c0 1b0w5 2c0'r5 1b1", "1 0 3 2", true, true}, {"", "2c0 1b0 2c0'r5 1b1w6", "1 0 2 3", true, true},
		// Of two sagas.
		{"", "1b0w5 2b0r5 1b1 1b1' 2b0' 1b0'w5", "0 1 2 3 4 5", true, false}, {"", "1b0w5 2b0r5 1b1 1b1' 2b0' 1b0'w5", "0 2 1 3 4 5", true, true}, {"", "1b0w5 2b0r5 1b1 1b1' 2b0' 1b0'w5", "0 2 3 1 5 4", true, true}, {"", "1b0w5 2b0r5 1b1 1b1' 2b0' 1b0'w5", "0 2 3 5 1 4", false, false},
	})
}

// TestBiggest: 100 nodes, and of 101 nothing.
func TestBiggest(t *testing.T) {
	turned := func(l []int, i, k int) []int {
		l = slices.Clone(l)
		l[i], l[k] = l[k], l[i]
		return l
	}
	// Of 25 sagas, apart from each other, the first steps, then the second ones, and so on.
	var h []api.Node
	var straight, bySagas, backward []int
	for i := range 100 {
		h = append(h, api.Node{Saga: i % 25, Class: 3, Step: i / 25, Reads: spans(0, 50), Writes: spans(100+i, 100+i)})
		straight, bySagas, backward = append(straight, i), append(bySagas, i%4*25+i/4), append(backward, i/25*25+24-i%25)
	}
	m := modelOf(shop(""), h)
	for _, order := range [][]int{straight, bySagas, backward} {
		if k, f := said(t, shop(""), m, order); !k || !f {
			t.Errorf("of 100 apart, %v", order)
		}
	}
	for _, order := range [][]int{straight[:99], append(slices.Clone(straight), 100), append(slices.Clone(straight[:99]), 98), append(slices.Clone(straight[:99]), 100), turned(straight, 0, 25), turned(straight, 74, 99), turned(bySagas, 98, 99), turned(bySagas, 0, 1)} {
		if k, f := said(t, shop(""), m, order); k || f {
			t.Errorf("of 100 apart, %v", order)
		}
	}
	// The last one depends on the one ahead of it, of another saga.
	h[99].Reads = append(h[99].Reads, spans(198, 198)...)
	m = modelOf(shop(""), h)
	for _, c := range []struct {
		order []int
		fair  bool
	}{{straight, false}, {bySagas, true}, {turned(bySagas, 95, 96), false}, {turned(bySagas, 91, 92), true}} {
		if k, f := said(t, shop(""), m, c.order); !k || f != c.fair {
			t.Errorf("of 100, %v: %t, %t", c.order, k, f)
		}
		if k, f := said(t, cat.Open(shop("")), modelOf(cat.Open(shop("")), h), c.order); !k || !f {
			t.Errorf("of 100 of an open catalogue, %v: %t, %t", c.order, k, f)
		}
	}
	nothing(t, shop(""), append(h, api.Node{Saga: 1000}))
	nothing(t, shop(""), slices.Concat(h, h))
}

// TestSagasOfAnyNumber: a saga's number is told apart alone.
func TestSagasOfAnyNumber(t *testing.T) {
	for _, s := range [][2]int{{0, 1}, {1, 0}, {7, 3}, {100, 99}, {math.MaxInt, 0}, {math.MaxInt - 1, math.MaxInt}, {1 << 32, 0}} {
		h := hist("1b0w5 2b0w5 1b1w6 2b1w7")
		for i := range h {
			h[i].Saga = s[h[i].Saga-1]
		}
		if keep, fair := all(t, shop(""), h); keep != 3 || fair != 1 {
			t.Errorf("of %v: %d, %d", s, keep, fair)
		}
	}
}

// TestSpansThatAreNotPlain: what a node has read and written is asked as sets of keys.
func TestSpansThatAreNotPlain(t *testing.T) {
	for _, s := range []string{"r9r1-5r3", "w9w5w5", "r5-9r1-5w999", "r0-999r0-999"} {
		h := append(hist("1b0w5"), node("2c0"+s), node("1b1r1r1"))
		if keep, fair := all(t, shop(""), h); keep != 2 || fair != 1 {
			t.Errorf("of %s: %d, %d", s, keep, fair)
		}
	}
	many := slices.Repeat(spans(9, 9), 39)
	h := []api.Node{{Saga: 1, Class: 2, Writes: append(slices.Clone(many), spans(5, 5)...)}, {Saga: 2, Class: 2, Reads: append(spans(5, 5), many...)}}
	if keep, _ := all(t, shop(""), h); keep != 1 {
		t.Errorf("of 40 spans: %d", keep)
	}
	h[1].Reads = append(h[1].Reads, spans(5, 5)...)
	nothing(t, shop(""), h)
}

// P17.2, P17.3: whether there is a fair order.

// TestHowManyAreFair: several, only one, and none, though some order keeps the history, as its own always does.
func TestHowManyAreFair(t *testing.T) {
	for _, c := range []struct {
		breaks, h  string
		keep, fair int
	}{
		{"", "", 1, 1}, {"", "0a0", 1, 1}, {"", "1d0 1d1 1d2 1d3", 1, 1}, {"dd7", "1d0w5 1d1r5 1d1' 1d0'w5", 1, 1},
		// Several, or all, are fair.
		{"", "1c0 2c0", 2, 2}, {"", "1c0 2c0 3c0", 6, 6}, {"", "4c0 2c0 3c0 1c0", 24, 24}, {"", "1b0 2b0 1b1 2b1", 6, 6}, {"", "1b0w5 2c0r5 1b1 3c0r5", 6, 2}, {"", "1c0w5 2c0r5 3c0r5 4c0w5", 2, 2},
		{"", "1b0w5 2b0r5 9c0 1b1 2b1", 15, 5}, {"bb1", "1b0w5 2b0r5 9c0 1b1 2b1", 15, 15}, {"", "1a0 2c0w5 1a1r5 1a2", 2, 1}, {"ac1", "1a0w5 2c0r5 1a1 1a2", 3, 3}, {"ac2", "1a0w5 2c0r5 1a1 1a2", 3, 2},
		// Only one is, of one, and of several that keep it.
		{"", "1c0w5 2c0r5", 1, 1}, {"", "1c0w5 2c0w5 3c0w5 4c0w5", 1, 1}, {"", "1b0w5 2c0r5 1b1", 2, 1}, {"", "1b0 2c0w5 1b1r5", 2, 1}, {"", "1b0w5 2b0w5 1b1w6 2b1w7", 3, 1}, {"", "1d0w5 2c0r5 1d1 1d2 1d3", 4, 1}, {"", "2b0 1b0w5 2b1r5w6 1b1r6", 2, 0}, {"", "2b0 1b0w5 2b1r5 1b1", 5, 2},
		// None is, of one, and of several that keep it.
		{"", "1b0w5 2c0r5w6 1b1r6", 1, 0}, {"bc1", "1b0w5 2c0r5w6 1b1r6", 1, 1}, {"bb1", "1b0w5 2c0r5w6 1b1r6", 1, 0}, {"", "1b0w5 2b0w5 2b1w6 1b1w6", 1, 0}, {"bb1", "1b0w5 2b0w5 2b1w6 1b1w6", 1, 1},
		{"", "1b0w5 2c0r5w6 1b1r6 9c0", 4, 0}, {"bc1", "1b0w5 2c0r5w6 1b1r6 9c0", 4, 4}, {"", "9c0 1b0w5 2c0r5w6 1b1r6", 4, 0}, {"", "1b0w5 2b0r5 2b1 1b1r7", 3, 1}, {"", "1b0w5r6 2b0r5 2b1 1b1r6", 3, 1}, {"", "1b0w5 2b0r5 2b1r7 1b1w7", 1, 0},
		{"", "1a0w5 1a1 2c0r5w6 1a2r6", 2, 0}, {"ac2", "1a0w5 1a1 2c0r5w6 1a2r6", 2, 1}, {"ac3", "1a0w5 1a1 2c0r5w6 1a2r6", 2, 2}, {"ac1", "1a0w5 1a1 2c0r5w6 1a2r6", 2, 1}, {"ac1", "1a0 1a1w5 2c0r5w6 1a2r6", 1, 0}, {"ab3 ad3", "1a0w5 1a1 2c0r5w6 1a2r6", 2, 0},
		// With what compensates.
		{"", "1b0w5 2c0r5w6 1b0'r6", 1, 1}, {"", "1b0w5 2c0r5w6 1b1r6 1b1' 2c0'w5 1b0'w5", 3, 0}, {"", "1b0w5 2c0r5 1b1 1b1'", 3, 2}, {"", "1b0 1b1 1b1'w5 2c0r5w6 1b0'r6", 1, 1}, {"", "1b0 2c0w5 2c0'w6 1b1r6", 3, 1},
		// Each stands in another one's unit.
		{"", "1b0w5 2b0w6 2b1w5 1b1w6", 4, 0}, {"", "1b0w5 2b0r5 3b0w6 1b1r6 2b1 3b1", 35, 2}, {"", "1b0w5 2b0r5w6 3b0r6w7 1b1r7", 1, 0}, {"", "1b0w5 2b0r5w6 3b0r6w7 1b1 2b1 3b1", 15, 1}, {"", "1b0 2b0 3b0 1b1w5 2b1w5 3b1w5", 15, 1},
	} {
		if keep, fair := all(t, shop(c.breaks), hist(c.h)); keep != c.keep || fair != c.fair {
			t.Errorf("of %s, %s: %d, %d", c.breaks, c.h, keep, fair)
		}
	}
}

// TestSearchSevenAndEight: of 7 nodes all orders are tried, the last ones, too, of 8 none is.
func TestSearchSevenAndEight(t *testing.T) {
	for _, c := range []struct {
		breaks, h string
		fair      bool
	}{
		{"", "1c0 2c0 3c0 4c0 5c0 6c0 7c0", true}, {"", "1c0w5 2c0w5 3c0w5 4c0w5 5c0w5 6c0w5 7c0w5", true}, {"", "1d0 1d1 1d2 1d3 1d3' 1d2' 1d1'", true}, {"", "1d0 1d1 1d2 2a0 2a1 2a2 1d3", true},
		// The only one has the first node behind all but one of the others, or has the last node first.
		{"", "1b0 2c0w5 3c0r5w6 4c0r6w7 5c0r7w8 6c0r8w9 1b1r9", true}, {"", "1a0 1a1 1a2w9 2c0w9 3c0w9 4c0w9 5c0w9", true}, {"", "1b0w5 2c0r5w6 3c0r6w7 4c0r7w8 5c0r8w9 6c0r9 1b1", true}, {"", "1a0 1a1 2a0 2a1 3c0w5 2a2r5w6 1a2r6", true},
		{"", "1b0w5 2c0r5w6 3c0r6w7 4c0r7w8 5c0r8w9 6c0r9w1 1b1r1", false}, {"bc1", "1b0w5 2c0r5w6 3c0r6w7 4c0r7w8 5c0r8w9 6c0r9w1 1b1r1", true}, {"", "1b0w5 2c0r5w6 1b1r6 9c0 8c0 7c0 6c0", false}, {"", "9c0 8c0 7c0 6c0 1b0w5 2c0r5w6 1b1r6", false},
	} {
		h := hist(c.h)
		for n := range h {
			found(t, shop(c.breaks), modelOf(shop(c.breaks), h[:n]), Search(shop(c.breaks), h[:n]))
		}
		if _, fair := all(t, shop(c.breaks), h); len(h) != 7 || Search(shop(c.breaks), h) != c.fair || (fair > 0) != c.fair {
			t.Errorf("of %s, %s: %d", c.breaks, c.h, fair)
		}
		// With one more, that conflicts with nothing, Find alone goes on.
		for _, more := range [][]api.Node{append(slices.Clip(h), node("77c0")), append([]api.Node{node("77c0")}, h...)} {
			if Search(shop(c.breaks), more) {
				t.Errorf("of 8 nodes: %v", more)
			}
			found(t, shop(c.breaks), modelOf(shop(c.breaks), more), c.fair)
		}
	}
	for n := range 102 {
		var h []api.Node
		for i := range n {
			h = append(h, api.Node{Saga: i, Class: 2, Writes: spans(5, 5)})
		}
		if Search(shop(""), h) != (n <= 7) {
			t.Errorf("of %d nodes", n)
		}
		found(t, shop(""), modelOf(shop(""), h), n <= 100)
	}
}

// TestFindOfMany: 100 nodes, of which one order is fair, several are, and none is.
func TestFindOfMany(t *testing.T) {
	// A saga begins, 98 come in, and it goes on behind them.
	around := func(first, inner, last string) []api.Node {
		h := hist(first)
		for i := range 98 {
			n := node(inner)
			n.Saga = 98 - i
			n.Writes = append(n.Writes, spans(100+i, 100+i)...)
			h = append(h, n)
		}
		return append(h, node(last))
	}
	for _, c := range []struct {
		breaks, first, inner, last string
		fair                       bool
	}{
		{"", "500b0w5", "1c0r5", "500b1r7", true}, {"", "500b0", "1c0r5", "500b1r100-999", true}, {"", "500b0w5", "1c0r5", "500b1r100-999", false}, {"", "500b0w5", "1c0w5", "500b1w5", false}, {"", "500b0w5", "1c0w5", "500b1", true},
		{"", "500b0", "1c0w5", "500b1w5", true}, {"bc1", "500b0w5", "1c0w5", "500b1w5", true}, {"cb0 bb1", "500b0w5", "1c0w5", "500b1w5", false}, {"", "500b0w5", "1b0w5", "500b1w5", false}, {"bb1", "500b0w5", "1b0w5", "500b1w5", true},
		{"", "500b0w5", "1c0w5", "500b0'w5", true}, {"", "500b0w5", "1c0r5", "500b0'r0-999", true}, {"", "500b0", "1c0", "500b1", true},
	} {
		x := shop(c.breaks)
		found(t, x, modelOf(x, around(c.first, c.inner, c.last)), c.fair)
	}
	for seed := range 60 {
		r := rand.New(rand.NewSource(int64(seed)))
		x := anyCatalogue(r)
		h := anyHistory(r, x, 100)
		m := modelOf(x, h)
		found(t, x, m, rsg.Good(x, h))
		if Search(x, h) != (len(h) <= 7 && rsg.Good(x, h)) {
			t.Fatalf("Search(%v)", h)
		}
	}
}

// P17.1 to P17.4: all orders of all short histories, and of any longer ones.

// after tells all nodes that may come next of as many sagas as there are classes, the i-th one of the i-th class, each with some keys.
func after(x api.Catalogue, h []api.Node, keys []api.Node) []api.Node {
	var l []api.Node
	for saga, c := range x.Classes {
		for _, back := range []bool{false, true} {
			for step := range c.Steps {
				n := api.Node{Saga: saga, Class: saga, Step: step, Back: back}
				if !units.May(x, append(slices.Clip(h), n)) {
					continue
				}
				for _, k := range keys {
					n.Reads, n.Writes = k.Reads, k.Writes
					l = append(l, n)
				}
			}
		}
	}
	return l
}

// grow goes through all histories of so many nodes, at most, behind one.
func grow(x api.Catalogue, h []api.Node, keys []api.Node, most int, try func(h []api.Node)) {
	try(h)
	if most == 0 {
		return
	}
	for _, n := range after(x, h, keys) {
		grow(x, append(slices.Clip(h), n), keys, most-1, try)
	}
}

// tally counts histories by how many of their orders are fair: none, one, several, or all that keep them.
type tally struct{ none, one, several, every int }

func (c *tally) add(keep, fair int) {
	switch {
	case fair == 0:
		c.none++
	case fair == keep:
		c.every++
	case fair == 1:
		c.one++
	default:
		c.several++
	}
}

// held sees to it that there were enough of each.
func (c *tally) held(t *testing.T, least int) {
	t.Helper()
	if min(c.none, c.one, c.several, c.every) < least {
		t.Fatalf("the test asks too little: %+v", *c)
	}
}

func TestAllShortHistories(t *testing.T) {
	var count tally
	each := func(x api.Catalogue, keys string, most int) {
		grow(x, nil, hist(keys), most, func(h []api.Node) { count.add(all(t, x, h)) })
	}
	for _, breaks := range []string{"", "ab1", "ba1", "ab1 ba1"} {
		each(broken(steps(2, 2), breaks), "0a0w5 0a0r5w6", 4)
	}
	for _, breaks := range []string{"", "ab1", "ab2 ba0"} {
		each(broken(steps(3, 1), breaks), "0a0w5 0a0r6", 4)
	}
	for _, breaks := range []string{"", "ac1", "ab2 ac1"} {
		each(broken(steps(3, 1, 1), breaks), "0a0w5", 5)
	}
	count.held(t, 30)
}

// anyKeys tells some of a few keys.
func anyKeys(r *rand.Rand) []api.Span {
	var l []api.Span
	for r.Intn(2) == 0 {
		lo := r.Intn(9)
		l = append(l, api.Span{Lo: lo, Hi: lo + r.Intn(2)})
	}
	return l
}

// anyCatalogue tells one that may be, with any breakpoints.
func anyCatalogue(r *rand.Rand) api.Catalogue {
	var l []int
	for range 1 + r.Intn(4) {
		l = append(l, 1+r.Intn(4))
	}
	x := steps(l...)
	for c, n := range l {
		for d := range l {
			if r.Intn(2) == 0 {
				x.Breaks[c][d] = r.Intn(1 << (n - 1))
			}
		}
	}
	return x
}

// anyHistory tells one that may be, of at most so many nodes, of some sagas.
func anyHistory(r *rand.Rand, x api.Catalogue, most int) []api.Node {
	var h []api.Node
	sagas := 2 + r.Intn(2+most/4)
	for range 4 * most {
		n := api.Node{Saga: r.Intn(sagas), Class: r.Intn(len(x.Classes)), Reads: anyKeys(r), Writes: anyKeys(r)}
		for _, o := range h {
			if o.Saga == n.Saga {
				n.Class, n.Back, n.Step = o.Class, o.Back, o.Step+1
				if o.Back {
					n.Step = o.Step - 1
				} else if r.Intn(6) == 0 {
					n.Back, n.Step = true, o.Step
				}
			}
		}
		if len(h) < most && units.May(x, append(slices.Clip(h), n)) {
			h = append(h, n)
		}
	}
	return h
}

func TestAllOrdersOfAnyHistories(t *testing.T) {
	var count tally
	for seed := range 1200 {
		r := rand.New(rand.NewSource(int64(seed)))
		x := anyCatalogue(r)
		count.add(all(t, x, anyHistory(r, x, 2+r.Intn(4))))
	}
	for seed := range 25 {
		r := rand.New(rand.NewSource(int64(5000 + seed)))
		x := anyCatalogue(r)
		count.add(all(t, x, anyHistory(r, x, 7)))
	}
	count.held(t, 20)
}

// TestJustIfItsGraphIsGood: of histories of up to 7 nodes, an order of which is fair just if Good is true.
func TestJustIfItsGraphIsGood(t *testing.T) {
	var good, bad int
	for seed := range 3000 {
		r := rand.New(rand.NewSource(int64(seed)))
		x := anyCatalogue(r)
		h := anyHistory(r, x, 5+r.Intn(3))
		is := rsg.Good(x, h)
		if is {
			good++
		} else {
			bad++
		}
		if Search(x, h) != is {
			t.Fatalf("Search(%v) isn't %t", h, is)
		}
		found(t, x, modelOf(x, h), is)
	}
	if min(good, bad) < 300 {
		t.Fatalf("the test asks too little: %d, %d", good, bad)
	}
}

// anyOrderOf tells an order that keeps a history, in which any of those that may come comes next.
func anyOrderOf(r *rand.Rand, m model) []int {
	var l []int
	for range m.h {
		var can []int
		for i := range m.h {
			waits := slices.Contains(l, i)
			for k := range i {
				waits = waits || m.stay[k][i] && !slices.Contains(l, k)
			}
			if !waits {
				can = append(can, i)
			}
		}
		l = append(l, can[r.Intn(len(can))])
	}
	return l
}

// TestAnyOrdersOfLongHistories: orders that keep them, or those with two nodes turned round, and a fair one with two next to each other turned round.
func TestAnyOrdersOfLongHistories(t *testing.T) {
	var kept, fair, asked int
	for seed := range 150 {
		r := rand.New(rand.NewSource(int64(seed)))
		x := anyCatalogue(r)
		h := anyHistory(r, x, 8+r.Intn(20))
		m := modelOf(x, h)
		var orders [][]int
		for range 4 {
			orders = append(orders, anyOrderOf(r, m))
		}
		if l, ok := Find(x, h); ok {
			orders = append(orders, l, l, l, l)
		}
		for i, order := range orders {
			order = slices.Clone(order)
			if i%4 > 1 && len(order) > 1 {
				p := r.Intn(len(order) - 1)
				o := p + 1
				if i == 3 {
					o = r.Intn(len(order))
				}
				order[p], order[o] = order[o], order[p]
			}
			k, f := said(t, x, m, order)
			asked++
			if k {
				kept++
			}
			if f {
				fair++
			}
		}
	}
	if fair < 50 || kept-fair < 50 || asked-kept < 50 {
		t.Fatalf("the test asks too little: %d, of which %d keep, and %d are fair", asked, kept, fair)
	}
}

// TestOpenAndClosed: of an open catalogue each order that keeps a history is fair; of a closed one each that goes saga by saga, if it keeps it.
func TestOpenAndClosed(t *testing.T) {
	serial := 0
	for seed := range 400 {
		r := rand.New(rand.NewSource(int64(seed)))
		x := anyCatalogue(r)
		h := anyHistory(r, x, 12)
		open, closed := cat.Open(x), cat.Closed(x)
		m := modelOf(open, h)
		for range 4 {
			if order := anyOrderOf(r, m); !Fair(open, h, order) {
				t.Fatalf("not fair: %v, of %v", order, h)
			}
		}
		found(t, open, m, true)
		var order []int
		for i := range h {
			order = append(order, i)
		}
		slices.SortStableFunc(order, func(a, b int) int { return h[a].Saga - h[b].Saga })
		if k, f := said(t, closed, modelOf(closed, h), order); k && f {
			serial++
		} else if k {
			t.Fatalf("not fair: %v, of %v", order, h)
		}
	}
	if serial < 30 {
		t.Fatalf("the test asks too little: %d", serial)
	}
}

// Wrong inputs.

func TestNothingOfWhatMayNotBe(t *testing.T) {
	for _, s := range []string{
		"0a1", "0a0'", "0a0 0a0", "0a0 0a2", "0a0 0b1", "0a0 0a1'", "0a0 0a0' 0a0'", "0a0 0a0' 0a1", "-1a0", "0e0", "0a3", "0c1", "0a-1", "0c0 0c1",
		// One that may not be behind, ahead of, and between what may.
		"1b0w5 2c0r5 1b1 0a1", "0a1 1b0w5 2c0r5 1b1", "1b0w5 2c0r5w6 0e0 1b1", "1b0w5 2c0r5 2c0r5 1b1", "1c0w5 2c0r5 -1c0", "1c0w5 2c0r5 1c0w5",
		"1b0w5 2c0r5w6 1b1r6 0a1", "0a1 1b0w5 2c0r5w6 1b1r6",
	} {
		for _, breaks := range []string{"", "bc1 ab3"} {
			nothing(t, shop(breaks), hist(s))
		}
	}
	for _, i := range odd() {
		if i != 0 {
			nothing(t, shop(""), []api.Node{{Step: i}})
		}
		if i < 0 || i > 3 {
			nothing(t, shop(""), []api.Node{{Class: i}})
			nothing(t, shop(""), []api.Node{{Saga: 1, Writes: spans(5, 5)}, {Saga: 2, Class: i, Writes: spans(5, 5)}})
		}
		if i < 0 {
			nothing(t, shop(""), []api.Node{{Saga: i}})
		}
	}
	for _, s := range [][]api.Span{spans(5, 4), spans(-1, 5), spans(0, 1000), spans(math.MinInt, math.MaxInt), spans(1, 2, 5, 4), slices.Repeat(spans(5, 5), 41)} {
		nothing(t, shop(""), []api.Node{{Reads: s}})
		nothing(t, shop(""), []api.Node{{Saga: 1, Class: 2, Writes: spans(5, 5)}, {Saga: 2, Class: 2, Writes: s}})
	}
}

func TestNothingOfNoCatalogue(t *testing.T) {
	for _, x := range notCatalogues() {
		for _, s := range []string{"", "0a0", "0b0", "0a0 0a1", "0a0w5 1b0w5", "1a0w5 2a0w5 1a1w6 2a1w6"} {
			nothing(t, x, hist(s))
		}
		nothing(t, x, nil)
	}
}

func TestNilAndZero(t *testing.T) {
	for _, h := range [][]api.Node{nil, {}} {
		for _, order := range [][]int{nil, {}} {
			if !Keeps(shop(""), h, order) || !Fair(shop(""), h, order) {
				t.Error("of no nodes")
			}
			if Keeps(api.Catalogue{}, h, order) || Fair(api.Catalogue{}, h, order) {
				t.Error("of a zero catalogue")
			}
		}
		if l, ok := Find(shop(""), h); !Search(shop(""), h) || !ok || len(l) != 0 {
			t.Errorf("of no nodes: %v, %t", l, ok)
		}
		nothing(t, api.Catalogue{}, h)
		all(t, shop(""), h)
	}
	// A zero node is a first step of the first class.
	if keep, fair := all(t, shop(""), []api.Node{{}}); keep != 1 || fair != 1 {
		t.Errorf("of a zero node: %d, %d", keep, fair)
	}
	nothing(t, shop(""), []api.Node{{}, {}})
	nothing(t, api.Catalogue{}, []api.Node{{}})
	nothing(t, shop(""), make([]api.Node, 300000))
}

// Memory.

// spare tells a list that is the same, with spare room in which something stands.
func spare[T any](l []T, more T) []T {
	return append(slices.Clone(l), more, more, more)[:len(l)]
}

// whole tells a list with its spare room.
func whole[T any](l []T) []T { return l[:cap(l)] }

// wholeOf tells nodes with all spare room.
func wholeOf(h []api.Node) []api.Node {
	var l []api.Node
	for _, n := range whole(h) {
		n.Reads, n.Writes = whole(n.Reads), whole(n.Writes)
		l = append(l, n)
	}
	return l
}

// TestLeftAsItWas: what is handed in, and its spare room.
func TestLeftAsItWas(t *testing.T) {
	for _, breaks := range []string{"", "bb1 bc1"} {
		for _, s := range []string{"", "1b0w5r7 2b0w5 1b1r9", "1b0w9w5 2c0r5r4w6 1b1r6", "2b0 1b0w5 2b1r5 1b1", "1b0w5 2c0r5 1b0'w5", "0a1 1b0", "1b0w5 0a1", "1c0w9 2c0w8 3c0w7 4c0w6 5c0w5 6c0w4 7c0w3 8c0w3"} {
			for _, o := range []string{"", "0 1 2", "0 2 1", "2 1 0", "0 1 2 3", "1 3 0 2", "0 0 0", "1 0", "0 9", "7 6 5 4 3 2 1 0"} {
				tell := func() (api.Catalogue, []api.Node, []int) {
					x, h := shop(breaks), hist(s)
					for i := range h {
						h[i].Reads, h[i].Writes = spare(h[i].Reads, api.Span{Lo: 3, Hi: 3}), spare(h[i].Writes, api.Span{Lo: 4, Hi: 4})
					}
					x.Classes = spare(x.Classes, api.Class{Name: "more"})
					return x, spare(h, api.Node{Saga: 77, Class: 2}), spare(numbers(o), 7)
				}
				x, h, order := tell()
				Keeps(x, h, order)
				Fair(x, h, order)
				Search(x, h)
				Find(x, h)
				was, hWas, orderWas := tell()
				if !reflect.DeepEqual(whole(x.Classes), whole(was.Classes)) || x.Breaks != was.Breaks || !reflect.DeepEqual(wholeOf(h), wholeOf(hWas)) || !slices.Equal(whole(order), whole(orderWas)) {
					t.Errorf("changed: %v, %v", wholeOf(h), whole(order))
				}
			}
		}
	}
}

// TestAnswersAreNew: what is done to an answer, in its spare room too, changes no other one, and nothing is kept from call to call.
func TestAnswersAreNew(t *testing.T) {
	x, h := shop(""), hist("2b0 1b0w5 2b1r5 1b1")
	for range 3 {
		a, _ := Find(x, h)
		b, _ := Find(x, h)
		clear(whole(a))
		if !slices.Equal(b, numbers("1 0 3 2")) {
			t.Fatalf("changed: %v", b)
		}
		all(t, x, h)
	}
	// The history, the catalogue, and the order are others now.
	order := numbers("0 1 2 3")
	if Fair(x, h, order) {
		t.Error("the node 1 comes in")
	}
	h[2].Reads[0] = api.Span{Lo: 9, Hi: 9}
	if _, f := said(t, x, modelOf(x, h), order); !f {
		t.Error("with another key")
	}
	h[2].Reads[0] = api.Span{Lo: 5, Hi: 5}
	x.Breaks[1][1] = 1
	if _, f := said(t, x, modelOf(x, h), order); !f {
		t.Error("with a breakpoint")
	}
	order[3] = 4
	if k, f := said(t, x, modelOf(x, h), order); k || f {
		t.Error("of another order")
	}
}
