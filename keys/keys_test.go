package keys

import (
	"math"
	"math/rand"
	"slices"
	"testing"

	"gimmal/api"
)

// last is the greatest key that the document names.
const last = 999

// set tells of each key whether it is in a set.
type set [last + 1]bool

// spans tells the spans of the Los and His that are told one behind the other.
func spans(ends ...int) []api.Span {
	var l []api.Span
	for i := 0; i < len(ends); i += 2 {
		l = append(l, api.Span{Lo: ends[i], Hi: ends[i+1]})
	}
	return l
}

// may tells whether a span may be, as the document's words do.
func may(s api.Span) bool { return s.Lo >= 0 && s.Hi >= s.Lo && s.Hi <= last }

// model tells the keys of a list, key by key.
func model(l []api.Span) set {
	var m set
	for _, s := range l {
		if may(s) {
			for k := s.Lo; k <= s.Hi; k++ {
				m[k] = true
			}
		}
	}
	return m
}

// chosen tells the keys that a choice takes.
func chosen(take func(k int) bool) set {
	var m set
	for k := range m {
		m[k] = take(k)
	}
	return m
}

// list tells the keys of a set, rising.
func (m set) list() []int {
	var l []int
	for k, in := range m {
		if in {
			l = append(l, k)
		}
	}
	return l
}

// plain tells the plain list of a set's keys: each run of keys, as long as it is, is a span.
func (m set) plain() []api.Span {
	var l []api.Span
	for k, in := range m {
		switch {
		case !in:
		case k > 0 && m[k-1]:
			l[len(l)-1].Hi = k
		default:
			l = append(l, api.Span{Lo: k, Hi: k})
		}
	}
	return l
}

// isPlain tells whether a list is plain, as the document's words do.
func isPlain(l []api.Span) bool {
	for i, s := range l {
		if !may(s) || i > 0 && s.Lo < l[i-1].Hi+2 {
			return false
		}
	}
	return true
}

// same sees to it that a list of spans is as it must be.
func same(t *testing.T, what string, l, want []api.Span) {
	t.Helper()
	if !slices.Equal(l, want) {
		t.Errorf("%s: %d, not %d", what, l, want)
	}
	if !isPlain(l) {
		t.Errorf("%s: %d isn't plain", what, l)
	}
}

// wrongSpans has spans that may not be; some would be right if higher bits were cut off.
func wrongSpans() []api.Span {
	return spans(
		1, 0, 5, 4, 9, 0, 999, 998, 999, 0, 998, 997, // a Lo above its Hi
		-1, -1, -1, 0, -1, 3, -1, 999, -2, -1, -1, 1000, -999, 999, -5, 5, 0, -1, 5, -5, // below the first key
		1000, 1000, 999, 1000, 0, 1000, 5, 1000, 998, 1001, 1000, 1001, 1000, 999, 1000, 0, 1001, 1000, // above the last one
		0, math.MaxInt, math.MinInt, 0, math.MinInt, 999, math.MinInt, math.MaxInt, math.MaxInt, math.MinInt, 5, math.MinInt,
		math.MaxInt, 5, math.MaxInt, math.MaxInt, math.MinInt, math.MinInt, math.MaxInt-1, math.MaxInt, 999, math.MaxInt,
		1<<32, 1<<32, 1<<32+5, 1<<32+7, 5, 1<<32+7, 1<<32+5, 7, -1<<32, 5, -1<<32+5, -1<<32+7, 1<<16, 1<<16+9, 1024, 1025, 0, 1024,
	)
}

// rightSpans has spans that may be: one key, few, all; at both ends.
func rightSpans() []api.Span {
	return spans(
		0, 0, 0, 1, 1, 1, 5, 5, 5, 7, 500, 500, 0, 500, 500, 999, 0, 998, 1, 999, 1, 998, 0, 999, 255, 256, 256, 256, 255, 255,
		998, 998, 998, 999, 999, 999,
	)
}

// lists has lists of spans, with the edges that the document names, plain or not, right or wrong.
func lists() [][]api.Span {
	return [][]api.Span{
		nil, {},
		spans(0, 0), spans(999, 999), spans(0, 0, 999, 999), spans(999, 999, 0, 0), spans(0, 999), spans(1, 998),
		spans(5, 7), spans(5, 7, 5, 7), spans(5, 7, 5, 7, 5, 7), spans(0, 999, 0, 999), spans(6, 6), // the same ones
		spans(5, 7, 8, 9), spans(8, 9, 5, 7), spans(5, 5, 6, 6, 7, 7), spans(7, 7, 6, 6, 5, 5), spans(6, 6, 5, 5, 7, 7), // that touch
		spans(5, 7, 9, 10), spans(9, 10, 5, 7), // with one key between
		spans(5, 7, 7, 9), spans(7, 9, 5, 7), spans(5, 8, 6, 9), spans(6, 9, 5, 8), spans(1, 9, 3, 4), spans(3, 4, 1, 9), // that overlap
		spans(1, 9, 3, 4, 10, 10), spans(1, 9, 3, 4, 6, 6, 8, 8, 11, 12), spans(1, 9, 1, 3), spans(1, 3, 1, 9), spans(1, 9, 7, 9), spans(7, 9, 1, 9),
		spans(5, 7, 1, 2, 3, 4), spans(5, 7, 1, 2), spans(1, 2, 5, 7), spans(3, 4), spans(1, 9), spans(1, 9, 20, 29), spans(3, 4, 8, 22), spans(10, 19),
		spans(0, 499, 500, 999), spans(500, 999, 0, 499), spans(0, 498, 500, 999), spans(0, 0, 1, 999), spans(0, 998, 999, 999),
		spans(5, 4, -1, 3, 999, 1000), spans(5, 4), spans(-1, 1000), spans(-1, -1, 1000, 1000), spans(1000, 1000, 0, 0, -1, -1, 999, 999),
		spans(5, 4, 5, 5, -1, 3, 2, 2, 999, 1000, 998, 998), spans(5, 7, 8, 7, 9, 9), spans(5, 7, 8, 1000, 9, 9), spans(-1, 5, 6, 6),
		wrongSpans(), rightSpans(), append(wrongSpans(), spans(5, 7, 1, 2, 3, 4)...), append(spans(5, 7, 1, 2, 3, 4), wrongSpans()...),
		chosen(func(k int) bool { return k%2 == 0 }).plain(), chosen(func(k int) bool { return k%2 == 1 }).plain(), chosen(func(k int) bool { return k%3 != 0 }).plain(),
		eachAlone(),
	}
}

// eachAlone has each key as a span of its own, falling.
func eachAlone() []api.Span {
	var l []api.Span
	for k := last; k >= 0; k-- {
		l = append(l, api.Span{Lo: k, Hi: k})
	}
	return l
}

// keysAround has what is a key, and what is none.
func keysAround() []int {
	l := []int{-1, -2, 1000, 1001, 1024, 1 << 16, 1 << 32, 1<<32 + 5, -1 << 32, -1<<32 + 5, -999, -1000, math.MinInt, math.MinInt + 5, math.MaxInt, math.MaxInt - 1}
	for k := range last + 1 {
		l = append(l, k)
	}
	return l
}

// randomList tells spans, of which some may not be, around one of the ends or anywhere.
func randomList(rnd *rand.Rand) []api.Span {
	around := []int{0, 5, 500, 995, 999}[rnd.Intn(5)]
	reach := []int{4, 12, 100, 1100}[rnd.Intn(4)]
	l := make([]api.Span, rnd.Intn(9))
	for i := range l {
		lo := around + rnd.Intn(2*reach) - reach
		l[i] = api.Span{Lo: lo, Hi: lo + rnd.Intn(reach/2+1) - 1}
	}
	return l
}

// randomParts tells the keys of a set as spans in any order, some of them more than once, and spans that may not be among them.
func randomParts(rnd *rand.Rand, m set) []api.Span {
	wrong := wrongSpans()
	var l []api.Span
	for _, s := range m.plain() {
		for lo := s.Lo; lo <= s.Hi; {
			hi := lo + rnd.Intn(s.Hi-lo+1)
			l = append(l, api.Span{Lo: max(s.Lo, lo-rnd.Intn(2)), Hi: hi})
			lo = hi + 1
		}
		for range rnd.Intn(3) {
			lo := s.Lo + rnd.Intn(s.Hi-s.Lo+1)
			l = append(l, api.Span{Lo: lo, Hi: lo + rnd.Intn(s.Hi-lo+1)})
		}
	}
	for range rnd.Intn(3) {
		l = append(l, wrong[rnd.Intn(len(wrong))])
	}
	rnd.Shuffle(len(l), func(i, k int) { l[i], l[k] = l[k], l[i] })
	return l
}

// checkOne sees to it that all calls on one list tell what the model tells.
func checkOne(t *testing.T, l []api.Span) {
	t.Helper()
	m := model(l)
	want := m.list()
	same(t, "Plain", Plain(l), m.plain())
	if n := Size(l); n != len(want) {
		t.Errorf("Size(%d): %d, not %d", l, n, len(want))
	}
	if all := All(l); !slices.Equal(all, want) {
		t.Errorf("All(%d): %d, not %d", l, all, want)
	}
}

// checkHas sees to it that Has tells what the model tells.
func checkHas(t *testing.T, l []api.Span, ks []int) {
	t.Helper()
	m := model(l)
	for _, k := range ks {
		if in := k >= 0 && k <= last && m[k]; Has(l, k) != in {
			t.Errorf("Has(%d, %d): %t", l, k, !in)
		}
	}
}

// checkTwo sees to it that all calls on two lists tell what the model tells.
func checkTwo(t *testing.T, a, b []api.Span) {
	t.Helper()
	ma, mb := model(a), model(b)
	union := chosen(func(k int) bool { return ma[k] || mb[k] })
	both := chosen(func(k int) bool { return ma[k] && mb[k] })
	less := chosen(func(k int) bool { return ma[k] && !mb[k] })
	same(t, "Union", Union(a, b), union.plain())
	same(t, "Both", Both(a, b), both.plain())
	same(t, "Less", Less(a, b), less.plain())
	if Meet(a, b) != (both != set{}) {
		t.Errorf("Meet(%d, %d): %t", a, b, Meet(a, b))
	}
	if Inside(a, b) != (less == set{}) {
		t.Errorf("Inside(%d, %d): %t", a, b, Inside(a, b))
	}
}

// P4.1: May, Plain, Has and Size.

func TestMay(t *testing.T) {
	for _, s := range rightSpans() {
		if !May(s) {
			t.Errorf("%d may not be", s)
		}
	}
	for _, s := range append(wrongSpans(), api.Span{Lo: 6, Hi: 5}) {
		if May(s) {
			t.Errorf("%d may be", s)
		}
	}
	if !May(api.Span{}) {
		t.Error("the zero span has the key 0")
	}
}

func TestMayOfAnyEnds(t *testing.T) {
	around := []int{-2, -1, 0, 1, 2, 499, 500, 501, 997, 998, 999, 1000, 1001, 1 << 32, -1 << 32, math.MinInt, math.MaxInt}
	for _, lo := range around {
		for _, hi := range around {
			if s := (api.Span{Lo: lo, Hi: hi}); May(s) != may(s) {
				t.Errorf("May(%d): %t", s, May(s))
			}
		}
	}
}

func TestPlain(t *testing.T) {
	for _, c := range []struct{ l, want []api.Span }{
		{nil, nil}, {[]api.Span{}, nil},
		{spans(5, 7, 1, 2, 3, 4), spans(1, 7)}, {spans(5, 7, 1, 2), spans(1, 2, 5, 7)}, {spans(1, 9, 3, 4, 10, 10), spans(1, 10)},
		{spans(5, 7), spans(5, 7)}, {spans(5, 7, 5, 7), spans(5, 7)}, {spans(5, 7, 8, 9), spans(5, 9)}, {spans(8, 9, 5, 7), spans(5, 9)},
		{spans(5, 7, 9, 10), spans(5, 7, 9, 10)}, {spans(9, 10, 5, 7), spans(5, 7, 9, 10)}, {spans(5, 8, 6, 9), spans(5, 9)}, {spans(6, 9, 5, 8), spans(5, 9)},
		{spans(1, 9, 3, 4, 6, 6, 11, 12), spans(1, 9, 11, 12)}, {spans(1, 9, 3, 4, 10, 11), spans(1, 11)},
		{spans(0, 0), spans(0, 0)}, {spans(999, 999), spans(999, 999)}, {spans(999, 999, 0, 0), spans(0, 0, 999, 999)},
		{spans(0, 999), spans(0, 999)}, {spans(500, 999, 0, 499), spans(0, 999)}, {spans(500, 999, 0, 498), spans(0, 498, 500, 999)},
		{spans(5, 4, -1, 3, 999, 1000), nil}, {spans(-1, -1, 0, 0, 999, 999, 1000, 1000), spans(0, 0, 999, 999)},
		{spans(5, 7, 8, 7, 9, 9), spans(5, 7, 9, 9)}, {spans(5, 7, 8, 1000, 9, 9), spans(5, 7, 9, 9)}, {spans(-1, 5, 6, 6), spans(6, 6)},
	} {
		same(t, "Plain", Plain(c.l), c.want)
	}
}

func TestOneSpanThatMayNotBeHasNoKeys(t *testing.T) {
	for _, s := range wrongSpans() {
		l := []api.Span{s}
		same(t, "Plain", Plain(l), nil)
		if Size(l) != 0 || len(All(l)) != 0 {
			t.Errorf("%d has %d keys: %d", s, Size(l), All(l))
		}
		checkHas(t, l, []int{s.Lo, s.Hi, 0, 5, 6, 999, 1000, -1})
		checkTwo(t, l, spans(0, 999))
		checkTwo(t, spans(0, 999), l)
	}
}

func TestOneSpanThatMayBe(t *testing.T) {
	for _, s := range rightSpans() {
		l := []api.Span{s}
		same(t, "Plain", Plain(l), l)
		if n := Size(l); n != s.Hi-s.Lo+1 {
			t.Errorf("Size(%d): %d", l, n)
		}
		checkHas(t, l, []int{s.Lo - 1, s.Lo, s.Hi, s.Hi + 1})
	}
}

func TestHas(t *testing.T) {
	l := spans(1, 9, 20, 29, 0, 1000, 999, 999)
	for _, k := range []int{1, 5, 9, 20, 29, 999} {
		if !Has(l, k) {
			t.Errorf("%d hasn't %d", l, k)
		}
	}
	for _, k := range []int{-1, 0, 10, 19, 30, 998, 1000} {
		if Has(l, k) {
			t.Errorf("%d has %d", l, k)
		}
	}
	for _, l := range lists() {
		checkHas(t, l, keysAround())
	}
}

func TestSize(t *testing.T) {
	for _, c := range []struct {
		l    []api.Span
		want int
	}{
		{nil, 0}, {[]api.Span{}, 0}, {spans(0, 0), 1}, {spans(999, 999), 1}, {spans(0, 999), 1000}, {spans(0, 999, 0, 999, 5, 7), 1000},
		{spans(5, 7), 3}, {spans(5, 7, 5, 7), 3}, {spans(5, 7, 7, 9), 5}, {spans(5, 7, 8, 9), 5}, {spans(5, 7, 9, 9), 4}, {spans(1, 9, 3, 4), 9},
		{spans(5, 4), 0}, {spans(9, 0), 0}, {spans(-1, 5, 5, 1000, 3, 3), 1}, {spans(math.MinInt, math.MaxInt), 0},
		{spans(1, 9, 20, 29, 1, 9, 20, 29), 19},
	} {
		if n := Size(c.l); n != c.want {
			t.Errorf("Size(%d): %d, not %d", c.l, n, c.want)
		}
	}
}

func TestOfOneListAgainstTheModel(t *testing.T) {
	for _, l := range lists() {
		checkOne(t, l)
	}
	rnd := rand.New(rand.NewSource(1))
	for range 3000 {
		l := randomList(rnd)
		checkOne(t, l)
		checkHas(t, l, []int{-1, 0, 5, 6, rnd.Intn(1000), 999, 1000})
		if t.Failed() {
			t.Fatal("of", l)
		}
	}
}

// P4.2: Union, Both, Less, Meet and Inside.

func TestUnionBothAndLess(t *testing.T) {
	for _, c := range []struct{ a, b, union, both, less []api.Span }{
		{nil, nil, nil, nil, nil}, {spans(5, 7), nil, spans(5, 7), nil, spans(5, 7)}, {nil, spans(5, 7), spans(5, 7), nil, nil},
		{spans(1, 9), spans(3, 4), spans(1, 9), spans(3, 4), spans(1, 2, 5, 9)},
		{spans(3, 4), spans(1, 9), spans(1, 9), spans(3, 4), nil},
		{spans(1, 9, 20, 29), spans(3, 4, 8, 22), spans(1, 29), spans(3, 4, 8, 9, 20, 22), spans(1, 2, 5, 7, 23, 29)},
		{spans(3, 4, 8, 22), spans(1, 9, 20, 29), spans(1, 29), spans(3, 4, 8, 9, 20, 22), spans(10, 19)},
		{spans(0, 999), spans(0, 0, 999, 999), spans(0, 999), spans(0, 0, 999, 999), spans(1, 998)},
		{spans(0, 999), spans(1, 998), spans(0, 999), spans(1, 998), spans(0, 0, 999, 999)},
		{spans(0, 999), spans(0, 999), spans(0, 999), spans(0, 999), nil}, {spans(0, 999), nil, spans(0, 999), nil, spans(0, 999)},
		{spans(5, 7), spans(8, 9), spans(5, 9), nil, spans(5, 7)}, {spans(8, 9), spans(5, 7), spans(5, 9), nil, spans(8, 9)},
		{spans(5, 7), spans(9, 9), spans(5, 7, 9, 9), nil, spans(5, 7)}, {spans(9, 9), spans(5, 7), spans(5, 7, 9, 9), nil, spans(9, 9)},
		{spans(5, 7), spans(7, 9), spans(5, 9), spans(7, 7), spans(5, 6)}, {spans(7, 9), spans(5, 7), spans(5, 9), spans(7, 7), spans(8, 9)},
		{spans(5, 7), spans(5, 5), spans(5, 7), spans(5, 5), spans(6, 7)}, {spans(5, 7), spans(7, 7), spans(5, 7), spans(7, 7), spans(5, 6)},
		{spans(5, 7), spans(6, 6), spans(5, 7), spans(6, 6), spans(5, 5, 7, 7)},
		{spans(0, 0), spans(0, 0), spans(0, 0), spans(0, 0), nil}, {spans(999, 999), spans(999, 999), spans(999, 999), spans(999, 999), nil},
		{spans(0, 0), spans(999, 999), spans(0, 0, 999, 999), nil, spans(0, 0)},
		// Neither list is plain.
		{spans(6, 7, 5, 6, 4, 5), spans(7, 8, 6, 6, 6, 6), spans(4, 8), spans(6, 7), spans(4, 5)},
		{spans(5, 5, 6, 6, 7, 7), spans(6, 6, 5, 5, 8, 8), spans(5, 8), spans(5, 6), spans(7, 7)},
		{spans(1, 9, 3, 4), spans(3, 4, 9, 9, 1, 1), spans(1, 9), spans(1, 1, 3, 4, 9, 9), spans(2, 2, 5, 8)},
		// Spans that may not be have none.
		{spans(5, 7, 0, 1000), spans(-1, 999, 6, 6), spans(5, 7), spans(6, 6), spans(5, 5, 7, 7)},
		{spans(5, 4), spans(4, 3), nil, nil, nil}, {spans(5, 4), spans(0, 999), spans(0, 999), nil, nil}, {spans(0, 999), spans(5, 4), spans(0, 999), nil, spans(0, 999)},
	} {
		same(t, "Union", Union(c.a, c.b), c.union)
		same(t, "Both", Both(c.a, c.b), c.both)
		same(t, "Less", Less(c.a, c.b), c.less)
	}
}

func TestMeetAndInside(t *testing.T) {
	for _, c := range []struct {
		a, b         []api.Span
		meet, inside bool
	}{
		{nil, nil, false, true}, {nil, spans(5, 7), false, true}, {spans(5, 7), nil, false, false}, {[]api.Span{}, nil, false, true},
		{spans(1, 9, 20, 29), spans(3, 4, 8, 22), true, false}, {spans(1, 9, 20, 29), spans(10, 19), false, false}, {spans(2, 3, 21, 21), spans(1, 9, 20, 29), true, true},
		{spans(9, 10), spans(1, 9, 20, 29), true, false}, {spans(10, 10), spans(1, 9), false, false}, {spans(9, 9), spans(1, 9), true, true},
		{spans(1, 9), spans(1, 9), true, true}, {spans(1, 9), spans(1, 4, 6, 9), true, false}, {spans(1, 9), spans(5, 9, 1, 4), true, true}, {spans(1, 4, 6, 9), spans(1, 9), true, true},
		{spans(0, 999), spans(0, 999), true, true}, {spans(0, 999), spans(0, 998), true, false}, {spans(0, 999), spans(1, 999), true, false}, {spans(0, 0), spans(0, 999), true, true}, {spans(999, 999), spans(0, 999), true, true},
		{spans(0, 0), spans(999, 999), false, false}, {spans(999, 999), spans(0, 0), false, false}, {spans(0, 0), spans(1, 999), false, false}, {spans(999, 999), spans(0, 998), false, false},
		{spans(5, 4), nil, false, true}, {spans(5, 4), spans(5, 4), false, true}, {spans(5, 4), spans(0, 999), false, true}, {spans(0, 1000), spans(0, 999), false, true}, {spans(0, 999), spans(0, 1000), false, false},
		{spans(5, 5), spans(0, 1000), false, false}, {spans(-1, 5), spans(-1, 5), false, true}, {spans(5, 7, 0, 1000), spans(5, 7), true, true}, {spans(999, 1000), spans(999, 999), false, true},
	} {
		if Meet(c.a, c.b) != c.meet || Meet(c.b, c.a) != c.meet {
			t.Errorf("Meet(%d, %d): %t, %t", c.a, c.b, Meet(c.a, c.b), Meet(c.b, c.a))
		}
		if Inside(c.a, c.b) != c.inside {
			t.Errorf("Inside(%d, %d): %t", c.a, c.b, Inside(c.a, c.b))
		}
	}
}

func TestOfTwoListsAgainstTheModel(t *testing.T) {
	all := lists()
	for _, a := range all {
		for _, b := range all {
			checkTwo(t, a, b)
		}
	}
	rnd := rand.New(rand.NewSource(2))
	for range 3000 {
		a, b := randomList(rnd), randomList(rnd)
		checkTwo(t, a, b)
		if t.Failed() {
			t.Fatal("of", a, b)
		}
	}
}

// TestOfAllSetsOfFewKeys puts all sets of five keys beside each other, at both ends.
func TestOfAllSetsOfFewKeys(t *testing.T) {
	const few = 5
	for _, from := range []int{0, last + 1 - few} {
		at := func(bits int) []api.Span {
			return chosen(func(k int) bool { return k >= from && k < from+few && bits>>(k-from)&1 == 1 }).plain()
		}
		for i := range 1 << few {
			checkOne(t, at(i))
			for k := range 1 << few {
				checkTwo(t, at(i), at(k))
			}
		}
	}
}

// P4.3: One and All.

func TestOne(t *testing.T) {
	for _, k := range keysAround() {
		if k < 0 || k > last {
			if l := One(k); len(l) != 0 {
				t.Errorf("One(%d): %d", k, l)
			}
		} else {
			same(t, "One", One(k), spans(k, k))
		}
	}
}

func TestAll(t *testing.T) {
	every := make([]int, last+1)
	for k := range every {
		every[k] = k
	}
	for _, c := range []struct {
		l    []api.Span
		want []int
	}{
		{nil, nil}, {[]api.Span{}, nil}, {spans(4, 5, 1, 1), []int{1, 4, 5}}, {spans(0, 0), []int{0}}, {spans(999, 999), []int{999}}, {spans(999, 999, 0, 0), []int{0, 999}},
		{spans(0, 999), every}, {spans(500, 999, 0, 700), every}, {spans(5, 7, 6, 8, 5, 5), []int{5, 6, 7, 8}}, {spans(5, 4), nil}, {spans(-1, 3, 999, 1000, 2, 2), []int{2}},
	} {
		if l := All(c.l); !slices.Equal(l, c.want) {
			t.Errorf("All(%d): %d, not %d", c.l, l, c.want)
		}
	}
}

func TestTheKeysOfAListAreYieldedUntilLeft(t *testing.T) {
	for n := range 6 {
		var got []int
		for k := range each(spans(0, 1, 5, 7)) {
			if len(got) == n {
				break
			}
			got = append(got, k)
		}
		if !slices.Equal(got, []int{0, 1, 5, 6, 7}[:n]) {
			t.Errorf("the first %d: %d", n, got)
		}
	}
}

// P4.4: sets that have the same keys have the same plain list.

func TestTheSameKeysHaveTheSamePlainList(t *testing.T) {
	for _, same := range [][][]api.Span{
		{nil, {}, spans(5, 4), spans(-1, 1000), wrongSpans()},
		{spans(1, 7), spans(5, 7, 1, 2, 3, 4), spans(1, 7, 1, 7), spans(1, 5, 2, 7), spans(2, 7, 1, 5), spans(7, 7, 1, 6), append(wrongSpans(), spans(4, 7, 1, 3)...)},
		{spans(0, 999), spans(1, 999, 0, 0), spans(0, 998, 999, 999), spans(0, 500, 500, 999, 3, 3), Union(spans(0, 499), spans(500, 999)), Less(spans(0, 999), nil)},
		{spans(1, 2, 5, 7), spans(5, 7, 1, 2), spans(7, 7, 5, 6, 2, 2, 1, 1), Less(spans(1, 7), spans(3, 4)), Both(spans(0, 2, 4, 8), spans(1, 3, 5, 7))},
	} {
		for _, a := range same {
			for _, b := range same {
				if !slices.Equal(Plain(a), Plain(b)) {
					t.Errorf("%d is plain %d, %d is plain %d", a, Plain(a), b, Plain(b))
				}
			}
		}
	}
}

func TestAnyPartsOfASetHaveItsPlainList(t *testing.T) {
	rnd := rand.New(rand.NewSource(3))
	for range 1000 {
		m := model(randomList(rnd))
		a, b := randomParts(rnd, m), randomParts(rnd, m)
		if model(a) != m || model(b) != m {
			t.Fatal("the test's parts aren't of the set:", a, b)
		}
		for _, l := range [][]api.Span{Plain(a), Plain(b), Plain(Plain(a)), Union(a, b), Both(a, b), Less(a, nil), Union(a, nil), Union(nil, b)} {
			same(t, "the plain list", l, m.plain())
		}
		if !Inside(a, b) || !Inside(b, a) || len(Less(a, b)) != 0 || len(Less(b, a)) != 0 || Size(a) != Size(b) || !slices.Equal(All(a), All(b)) {
			t.Errorf("%d and %d have the same keys", a, b)
		}
		if t.Failed() {
			t.FailNow()
		}
	}
}

func TestSetsThatDifferHaveOtherPlainLists(t *testing.T) {
	for k := range last + 1 {
		l := Plain(Less(spans(0, 999), One(k)))
		if slices.Equal(l, spans(0, 999)) || Size(l) != last || Has(l, k) {
			t.Errorf("all but %d: %d", k, l)
		}
		if k > 0 && slices.Equal(Plain(One(k)), Plain(One(k-1))) {
			t.Errorf("%d and the key ahead have one plain list", k)
		}
	}
}

// The rules that hold everywhere.

// withRoom tells a copy of a list with spare room behind it, and all of that memory.
func withRoom(l []api.Span) ([]api.Span, []api.Span) {
	room := append(slices.Clone(l), spans(1, 3, 77, 78, 5, 5, 2, 2, 100, 200, 0, 0)...)
	return room[:len(l)], room
}

func TestWhatIsHandedInIsLeftAsItWas(t *testing.T) {
	for _, l := range lists() {
		for _, k := range []int{0, 5, 999, 1000} {
			a, roomOfA := withRoom(l)
			b, roomOfB := withRoom(spans(300, 299, 6, 8, 3, 4, 999, 999, 0, 0))
			wasA, wasB := slices.Clone(roomOfA), slices.Clone(roomOfB)
			Plain(a)
			Has(a, k)
			Size(a)
			All(a)
			for _, two := range []func(a, b []api.Span) []api.Span{Union, Both, Less} {
				two(a, b)
				two(b, a)
				two(a, a)
				two(a, nil)
				two(nil, a)
			}
			for _, two := range []func(a, b []api.Span) bool{Meet, Inside} {
				two(a, b)
				two(b, a)
				two(a, a)
			}
			if !slices.Equal(roomOfA, wasA) || !slices.Equal(roomOfB, wasB) {
				t.Errorf("what was handed in was changed: %d, %d", roomOfA, roomOfB)
			}
		}
	}
}

func TestAnswersAreNewMemory(t *testing.T) {
	a, b := spans(1, 9, 20, 29), spans(3, 4, 8, 22)
	for i, call := range []func() []api.Span{
		func() []api.Span { return Plain(a) }, func() []api.Span { return Plain(b) },
		func() []api.Span { return Union(a, b) }, func() []api.Span { return Union(a, nil) }, func() []api.Span { return Union(nil, a) }, func() []api.Span { return Union(a, a) },
		func() []api.Span { return Both(a, b) }, func() []api.Span { return Both(a, a) }, func() []api.Span { return Both(a, spans(0, 999)) }, func() []api.Span { return Both(spans(0, 999), a) },
		func() []api.Span { return Less(a, b) }, func() []api.Span { return Less(a, nil) }, func() []api.Span { return Less(a, spans(5, 4)) }, func() []api.Span { return Less(spans(0, 999), a) },
		func() []api.Span { return One(0) }, func() []api.Span { return One(7) }, func() []api.Span { return One(999) },
	} {
		first, second := call(), call()
		want := slices.Clone(second)
		for k := range first[:cap(first)] {
			first[:cap(first)][k] = api.Span{Lo: -5, Hi: -5}
		}
		if !slices.Equal(second, want) || !slices.Equal(call(), want) {
			t.Errorf("the answer %d shares memory with another one", i)
		}
	}
	if !slices.Equal(a, spans(1, 9, 20, 29)) || !slices.Equal(b, spans(3, 4, 8, 22)) {
		t.Error("an answer shares memory with an argument:", a, b)
	}
	first, second := All(a), All(a)
	first[0] = -5
	if second[0] != 1 || All(a)[0] != 1 {
		t.Error("All shares memory with another answer")
	}
}

func TestWhatWasHandedInIsNotKept(t *testing.T) {
	a, b := spans(1, 9, 20, 29), spans(3, 4)
	plain, union, both, less, all := Plain(a), Union(a, b), Both(a, b), Less(a, b), All(b)
	clear(a)
	clear(b)
	same(t, "Plain", plain, spans(1, 9, 20, 29))
	same(t, "Union", union, spans(1, 9, 20, 29))
	same(t, "Both", both, spans(3, 4))
	same(t, "Less", less, spans(1, 2, 5, 9, 20, 29))
	if !slices.Equal(all, []int{3, 4}) {
		t.Errorf("All: %d", all)
	}
}

func TestLongLists(t *testing.T) {
	const n = 200000
	rnd := rand.New(rand.NewSource(4))
	long, touching := make([]api.Span, n), make([]api.Span, n)
	for i := range long {
		lo := rnd.Intn(1000)
		long[i] = api.Span{Lo: lo, Hi: lo + rnd.Intn(3) - 1}
		touching[i] = api.Span{Lo: i % 1000, Hi: i % 1000}
	}
	checkOne(t, long)
	checkOne(t, touching)
	checkTwo(t, long, touching)
	checkTwo(t, touching, spans(0, 0, 999, 999))
	checkHas(t, touching, []int{-1, 0, 999, 1000})
}
