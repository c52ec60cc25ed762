package foot

import (
	"math"
	"math/rand"
	"slices"
	"testing"

	"gimmal/api"
	"gimmal/codes"
)

// The model: what the document's words say, done plainly, key by key and word by word.

// keyMayBe tells whether a template may be for so many arguments.
func keyMayBe(k api.KeyT, args int) bool {
	return args >= 0 && args < 4 && k.Arg > -2 && k.Arg < args && k.Base > -1 && k.Base < 901
}

// mayBe tells whether a footprint may be for so many arguments.
func mayBe(l []api.SpanT, args int) bool {
	for _, s := range l {
		if !keyMayBe(s.Lo, args) || !keyMayBe(s.Hi, args) {
			return false
		}
	}
	return args >= 0 && args < 4 && len(l) < 5
}

// suits tells whether a footprint may be for as many arguments, and these may be too.
func suits(l []api.SpanT, args []int) bool {
	for _, a := range args {
		if a < 0 || a > 99 {
			return false
		}
	}
	return mayBe(l, len(args))
}

// keySet is a set of keys, key by key.
type keySet [1000]bool

// fill adds the keys from one to another.
func (s *keySet) fill(lo, hi int) {
	for k := lo; k <= hi; k++ {
		s[k] = true
	}
}

// plain tells a set's keys as a plain list.
func (s *keySet) plain() []api.Span {
	var l []api.Span
	for k := range s {
		if !s[k] {
			continue
		}
		if k == 0 || !s[k-1] {
			l = append(l, api.Span{Lo: k, Hi: k})
		}
		l[len(l)-1].Hi = k
	}
	return l
}

// has tells whether all keys of spans are in a set; a span that may not be has none.
func (s *keySet) has(l []api.Span) bool {
	for _, x := range l {
		if x.Lo < 0 || x.Lo > x.Hi || x.Hi > 999 {
			continue
		}
		for k := x.Lo; k <= x.Hi; k++ {
			if !s[k] {
				return false
			}
		}
	}
	return true
}

// keyFor tells a template's key for arguments.
func keyFor(k api.KeyT, args []int) int {
	if k.Arg < 0 {
		return k.Base
	}
	return k.Base + args[k.Arg]
}

// setsOf tells the keys that a footprint reads, and those that it writes, for arguments that suit it.
func setsOf(l []api.SpanT, args []int) (reads, writes keySet) {
	for _, s := range l {
		lo, hi := keyFor(s.Lo, args), keyFor(s.Hi, args)
		reads.fill(lo, hi)
		if s.Write {
			writes.fill(lo, hi)
		}
	}
	return reads, writes
}

// coversIn tells whether a footprint may be, and covers reads and writes.
func coversIn(l []api.SpanT, args []int, reads, writes []api.Span) bool {
	if !suits(l, args) {
		return false
	}
	r, w := setsOf(l, args)
	return r.has(reads) && w.has(writes)
}

// signed tells a number with a sign as a word, modulo 2^64.
func signed(x int64) uint64 {
	if x >= 0 {
		return 2 * uint64(x)
	}
	return 2*uint64(-1-x) + 1
}

// unsigned tells the number with a sign that a word is.
func unsigned(w uint64) int64 {
	if w%2 == 0 {
		return int64(w / 2)
	}
	return -1 - int64(w/2)
}

// count tells a count as a word: 0 of what is below that.
func count(n int) uint64 {
	if n < 0 {
		return 0
	}
	return uint64(n)
}

// wordsOf tells a footprint's words.
func wordsOf(l []api.SpanT) []uint64 {
	all := []uint64{count(len(l))}
	for _, s := range l {
		all = append(all, signed(int64(s.Lo.Arg)), count(s.Lo.Base))
		all = append(all, signed(int64(s.Hi.Arg)), count(s.Hi.Base))
		if s.Write {
			all = append(all, 1)
		} else {
			all = append(all, 0)
		}
	}
	return all
}

// fitsIn tells whether a word that stands at a place of a span's words is right there.
func fitsIn(place int, w uint64) bool {
	switch place {
	case 0, 2:
		// Those of -1, and of 0 to 255.
		return w == 1 || w%2 == 0 && w < 512
	case 1, 3:
		return w < 1000
	}
	return w < 2
}

// footOf tells the footprint that stands at the beginning of words, how many words it takes, and whether there is one.
func footOf(l []uint64) ([]api.SpanT, int, bool) {
	if len(l) == 0 || l[0] > 4 || len(l) < 1+5*int(l[0]) {
		return nil, 0, false
	}
	var all []api.SpanT
	for i := range int(l[0]) {
		p := l[1+5*i : 6+5*i]
		for place, w := range p {
			if !fitsIn(place, w) {
				return nil, 0, false
			}
		}
		all = append(all, api.SpanT{
			Lo:    api.KeyT{Arg: int(unsigned(p[0])), Base: int(p[1])},
			Hi:    api.KeyT{Arg: int(unsigned(p[2])), Base: int(p[3])},
			Write: p[4] == 1,
		})
	}
	return all, 1 + 5*len(all), true
}

// What is tried.

// far has numbers at the ends of what there is.
var far = []int{math.MinInt, math.MinInt + 1, -1 << 32, 1<<32 - 1, 1 << 32, 1<<32 + 1, math.MaxInt - 1, math.MaxInt}

// key tells a template.
func key(arg, base int) api.KeyT { return api.KeyT{Arg: arg, Base: base} }

// from tells a span that is read alone, of keys that hang on no argument.
func from(lo, hi int) api.SpanT { return api.SpanT{Lo: key(-1, lo), Hi: key(-1, hi)} }

// written tells a span that is written, too.
func written(s api.SpanT) api.SpanT {
	s.Write = true
	return s
}

// spans tells a list of spans: each two numbers are one.
func spans(l ...int) []api.Span {
	var all []api.Span
	for i := 0; i < len(l); i += 2 {
		all = append(all, api.Span{Lo: l[i], Hi: l[i+1]})
	}
	return all
}

// some tells a footprint of four spans, of each sort one, that may be for two arguments or more.
func some() []api.SpanT {
	return []api.SpanT{
		{Lo: key(0, 5), Hi: key(0, 7), Write: true},
		{Lo: key(-1, 10), Hi: key(1, 10)},
		{Lo: key(1, 900), Hi: key(0, 900), Write: true},
		{Lo: key(-1, 0), Hi: key(-1, 0)},
	}
}

// times tells a footprint of a span so many times.
func times(s api.SpanT, n int) []api.SpanT { return slices.Repeat([]api.SpanT{s}, n) }

// randomOf tells one of some things.
func randomOf[T any](rnd *rand.Rand, l ...T) T { return l[rnd.Intn(len(l))] }

// goodKey tells any template that may be for so many arguments.
func goodKey(rnd *rand.Rand, args int) api.KeyT {
	return key(rnd.Intn(args+1)-1, randomOf(rnd, 0, 1, 899, 900, rnd.Intn(901), rnd.Intn(50)))
}

// goodSpan tells any span that may be for so many arguments.
func goodSpan(rnd *rand.Rand, args int) api.SpanT {
	s := api.SpanT{Lo: goodKey(rnd, args), Hi: goodKey(rnd, args), Write: rnd.Intn(2) == 0}
	if rnd.Intn(2) == 0 {
		s.Hi.Base = min(900, s.Lo.Base+rnd.Intn(30))
	}
	return s
}

// good tells any footprint that may be for so many arguments.
func good(rnd *rand.Rand, args int) []api.SpanT {
	var l []api.SpanT
	for range rnd.Intn(5) {
		l = append(l, goodSpan(rnd, args))
	}
	return l
}

// goodArgs tells any so many arguments.
func goodArgs(rnd *rand.Rand, n int) []int {
	var l []int
	for range n {
		l = append(l, randomOf(rnd, 0, 1, 98, 99, rnd.Intn(100)))
	}
	return l
}

// turned tells a span of which one number is another one, near the edges or far.
func turned(rnd *rand.Rand, s api.SpanT) api.SpanT {
	*randomOf(rnd, &s.Lo.Arg, &s.Lo.Base, &s.Hi.Arg, &s.Hi.Base) = randomOf(rnd, -2, -1, 0, 1, 2, 3, 4, 255, 256, 899, 900, 901, 999, 1000, randomOf(rnd, far...))
	return s
}

// anySpans tells any spans of keys, those that may not be among them.
func anySpans(rnd *rand.Rand) []api.Span {
	var l []api.Span
	for range rnd.Intn(4) {
		lo := randomOf(rnd, -1, 0, 999, 1000, rnd.Intn(1000), rnd.Intn(1000))
		l = append(l, api.Span{Lo: lo, Hi: lo + rnd.Intn(30) - 5})
	}
	return l
}

// P10.1: May.

// may sees to it that a footprint may be, or may not, for so many arguments, as the model says too.
func may(t *testing.T, l []api.SpanT, args int, want bool) {
	t.Helper()
	if mayBe(l, args) != want {
		t.Fatalf("the model of %v, %d", l, args)
	}
	if May(l, args) != want {
		t.Errorf("May(%v, %d): %t", l, args, !want)
	}
}

func TestMay(t *testing.T) {
	may(t, some(), 2, true)
	may(t, some(), 3, true)
	may(t, some(), 1, false)
	may(t, some()[:1], 1, true)
	may(t, some()[:1], 0, false)
	may(t, some()[3:], 0, true)
}

// TestMayOfArguments: 0 to 3 arguments there may be, whatever the spans.
func TestMayOfArguments(t *testing.T) {
	for n := range 5 {
		l := times(from(3, 5), n)
		for args := range 4 {
			may(t, l, args, true)
		}
		for _, args := range append([]int{-2, -1, 4, 5, 255, 256}, far...) {
			may(t, l, args, false)
		}
	}
}

func TestMayOfHowMany(t *testing.T) {
	for _, s := range some() {
		for n := range 8 {
			may(t, times(s, n), 2, n <= 4)
		}
		may(t, times(s, 256), 2, false)
		may(t, times(s, 257), 3, false)
	}
	for args := range 4 {
		may(t, nil, args, true)
		may(t, []api.SpanT{}, args, true)
		may(t, make([]api.SpanT, 5), args, false)
		may(t, times(from(0, 0), 4), args, true)
		may(t, times(from(0, 0), 5), args, false)
	}
}

// TestMayOfTemplates tries each end of a span, the other one as it may be, at each place of a footprint.
func TestMayOfTemplates(t *testing.T) {
	for args := range 4 {
		for _, arg := range append([]int{-3, -2, -1, 0, 1, 2, 3, 4}, far...) {
			for _, base := range append([]int{-100, -1, 0, 1, 899, 900, 901, 999, 1000}, far...) {
				want := arg >= -1 && arg < args && base >= 0 && base <= 900
				k := key(arg, base)
				for n := 1; n <= 4; n++ {
					for at := range n {
						l := times(from(0, 900), n)
						l[at].Lo = k
						may(t, l, args, want)
						l[at] = api.SpanT{Lo: key(-1, 900), Hi: k, Write: true}
						may(t, l, args, want)
						l[at].Lo = k
						may(t, l, args, want)
					}
				}
			}
		}
	}
}

// TestMayAtTheEdges says the same in numbers.
func TestMayAtTheEdges(t *testing.T) {
	for args := range 4 {
		for _, c := range []struct {
			k    api.KeyT
			want bool
		}{
			{key(-2, 0), false}, {key(-1, 0), true}, {key(args-1, 0), true}, {key(args, 0), false},
			{key(-1, -1), false}, {key(args-1, -1), false}, {key(-1, 900), true}, {key(args-1, 900), true}, {key(-1, 901), false}, {key(args-1, 901), false},
		} {
			if May([]api.SpanT{{Lo: c.k, Hi: key(-1, 5)}}, args) != c.want || May([]api.SpanT{{Lo: key(-1, 5), Hi: c.k}}, args) != c.want {
				t.Errorf("May of %v, %d: not %t", c.k, args, c.want)
			}
		}
	}
}

// TestMayOfSpansThatHaveNoKeys: a Hi below its Lo may be.
func TestMayOfSpansThatHaveNoKeys(t *testing.T) {
	may(t, []api.SpanT{from(9, 8), written(from(900, 0)), {Lo: key(0, 9), Hi: key(0, 8)}, {Lo: key(0, 9), Hi: key(-1, 9)}}, 1, true)
}

func TestMayOfAny(t *testing.T) {
	rnd := rand.New(rand.NewSource(1))
	both := [2]int{}
	for range 50000 {
		args := rnd.Intn(4)
		l := good(rnd, args)
		if len(l) > 0 && rnd.Intn(2) == 0 {
			i := rnd.Intn(len(l))
			l[i] = turned(rnd, l[i])
		}
		args = randomOf(rnd, args, args, args, args-1, args+1)
		may(t, l, args, mayBe(l, args))
		if mayBe(l, args) {
			both[1]++
		} else {
			both[0]++
		}
	}
	if min(both[0], both[1]) < 5000 {
		t.Error("what is tried is of one sort:", both)
	}
}

// P10.1: Spans.

// has sees to it that a footprint reads and writes these for arguments, as the model says too.
func has(t *testing.T, l []api.SpanT, args []int, reads, writes []api.Span) {
	t.Helper()
	if !suits(l, args) {
		t.Fatalf("the model of %v, %d", l, args)
	}
	if r, w := setsOf(l, args); !slices.Equal(r.plain(), reads) || !slices.Equal(w.plain(), writes) {
		t.Fatalf("the model of %v, %d: %v, %v", l, args, r.plain(), w.plain())
	}
	if r, w, ok := Spans(l, args); !slices.Equal(r, reads) || !slices.Equal(w, writes) || !ok {
		t.Errorf("Spans(%v, %d): %v, %v, %t, not %v, %v", l, args, r, w, ok, reads, writes)
	}
}

// hasAll says the same of spans that are all written, too, and of the same that are read alone.
func hasAll(t *testing.T, l []api.SpanT, args []int, want []api.Span) {
	t.Helper()
	alone, too := slices.Clone(l), slices.Clone(l)
	for i := range l {
		alone[i].Write, too[i].Write = false, true
	}
	has(t, alone, args, want, nil)
	has(t, too, args, want, want)
}

// hasNone sees to it that a footprint has nothing for arguments: it may not be for as many, or these may not be.
func hasNone(t *testing.T, l []api.SpanT, args []int) {
	t.Helper()
	if suits(l, args) {
		t.Fatalf("the model of %v, %d", l, args)
	}
	if r, w, ok := Spans(l, args); len(r) > 0 || len(w) > 0 || ok {
		t.Errorf("Spans(%v, %d): %v, %v, %t", l, args, r, w, ok)
	}
	if Covers(l, args, nil, nil) || Covers(l, args, []api.Span{}, spans(5, 4)) {
		t.Errorf("Covers(%v, %d) of none", l, args)
	}
}

func TestSpans(t *testing.T) {
	// The chapter's example.
	has(t, []api.SpanT{{Lo: key(0, 5), Hi: key(0, 7), Write: true}}, []int{10}, spans(15, 17), spans(15, 17))
	has(t, some(), []int{1, 4}, spans(0, 0, 6, 8, 10, 14), spans(6, 8))
	has(t, some(), []int{4, 1}, spans(0, 0, 9, 11, 901, 904), spans(9, 11, 901, 904))
	has(t, some(), []int{99, 0, 50}, spans(0, 0, 10, 10, 104, 106, 900, 999), spans(104, 106, 900, 999))
	for _, args := range [][]int{nil, {}, {0}, {99}, {1, 2}, {1, 2, 3}} {
		has(t, nil, args, nil, nil)
		has(t, []api.SpanT{}, args, nil, nil)
		hasAll(t, []api.SpanT{from(0, 900)}, args, spans(0, 900))
	}
}

// TestSpansOfArguments: each end hangs on the argument that its own Arg tells.
func TestSpansOfArguments(t *testing.T) {
	args := []int{10, 25, 60}
	for i, a := range args {
		hasAll(t, []api.SpanT{{Lo: key(-1, 3), Hi: key(i, 7)}}, args, spans(3, 7+a))
		hasAll(t, []api.SpanT{{Lo: key(i, 3), Hi: key(-1, 700)}}, args, spans(3+a, 700))
		for j, b := range args {
			hasAll(t, []api.SpanT{{Lo: key(i, 100), Hi: key(j, 200)}}, args, spans(100+a, 200+b))
		}
	}
	hasAll(t, []api.SpanT{{Lo: key(0, 0), Hi: key(0, 900)}}, []int{0}, spans(0, 900))
	hasAll(t, []api.SpanT{{Lo: key(0, 0), Hi: key(0, 900)}}, []int{99}, spans(99, 999))
	hasAll(t, []api.SpanT{{Lo: key(0, 0), Hi: key(1, 900)}}, []int{0, 99}, spans(0, 999))
	hasAll(t, []api.SpanT{{Lo: key(2, 900), Hi: key(2, 900)}}, []int{0, 0, 99}, spans(999, 999))
}

// TestSpansOfNoKeys: a Hi's key below, at and one above its Lo's.
func TestSpansOfNoKeys(t *testing.T) {
	for _, lo := range []int{1, 2, 500, 899} {
		for by, want := range map[int][]api.Span{-1: nil, 0: spans(lo, lo), 1: spans(lo, lo+1)} {
			hasAll(t, []api.SpanT{from(lo, lo+by)}, nil, want)
			hasAll(t, []api.SpanT{from(lo, lo+by)}, []int{1, 2, 3}, want)
		}
		for _, a := range []int{0, 1, 50, 99} {
			for by, want := range map[int][]api.Span{-1: nil, 0: spans(lo+a, lo+a), 1: spans(lo+a, lo+a+1)} {
				hasAll(t, []api.SpanT{{Lo: key(0, lo), Hi: key(0, lo+by)}}, []int{a}, want)
				hasAll(t, []api.SpanT{{Lo: key(1, lo), Hi: key(1, lo+by)}}, []int{7, a}, want)
				if lo+a+by <= 900 {
					hasAll(t, []api.SpanT{{Lo: key(0, lo), Hi: key(-1, lo+a+by)}}, []int{a}, want)
					hasAll(t, []api.SpanT{{Lo: key(-1, lo+a), Hi: key(0, lo+by)}}, []int{a}, want)
				}
			}
		}
	}
	// The same Bases: the arguments alone say which key is the lower one.
	l := []api.SpanT{{Lo: key(0, 40), Hi: key(1, 40)}}
	hasAll(t, l, []int{8, 7}, nil)
	hasAll(t, l, []int{8, 8}, spans(48, 48))
	hasAll(t, l, []int{8, 9}, spans(48, 49))
	hasAll(t, []api.SpanT{from(900, 0)}, nil, nil)
	has(t, []api.SpanT{written(from(5, 4)), from(7, 7)}, nil, spans(7, 7), nil)
	has(t, []api.SpanT{from(5, 4), written(from(7, 7))}, nil, spans(7, 7), spans(7, 7))
}

// TestSpansAreAPlainList: spans that overlap, that touch and that lie apart, in any order.
func TestSpansAreAPlainList(t *testing.T) {
	for _, c := range []struct{ l, want []api.Span }{
		{spans(1, 5, 5, 9), spans(1, 9)},
		{spans(1, 5, 3, 9), spans(1, 9)},
		{spans(1, 5, 6, 9), spans(1, 9)},
		{spans(1, 5, 7, 9), spans(1, 5, 7, 9)},
		{spans(1, 9, 3, 4), spans(1, 9)},
		{spans(1, 9, 1, 9), spans(1, 9)},
		{spans(1, 2, 3, 4, 5, 6, 7, 8), spans(1, 8)},
		{spans(1, 2, 4, 5, 7, 8, 10, 11), spans(1, 2, 4, 5, 7, 8, 10, 11)},
		{spans(1, 2, 4, 5, 3, 3, 9, 8), spans(1, 5)},
		{spans(0, 0, 900, 900, 1, 899), spans(0, 900)},
	} {
		for turn := range len(c.l) {
			var l, back []api.SpanT
			for i := range c.l {
				x := c.l[(i+turn)%len(c.l)]
				l = append(l, from(x.Lo, x.Hi))
			}
			for _, s := range slices.Backward(l) {
				back = append(back, s)
			}
			hasAll(t, l, nil, c.want)
			hasAll(t, back, []int{5}, c.want)
		}
	}
	// By an argument spans come to touch.
	l := []api.SpanT{from(10, 19), {Lo: key(0, 0), Hi: key(0, 5)}}
	hasAll(t, l, []int{3}, spans(3, 8, 10, 19))
	hasAll(t, l, []int{4}, spans(4, 19))
	hasAll(t, l, []int{14}, spans(10, 19))
	hasAll(t, l, []int{15}, spans(10, 20))
	hasAll(t, l, []int{20}, spans(10, 25))
	hasAll(t, l, []int{21}, spans(10, 19, 21, 26))
}

// TestSpansThatWrite: what is written is of those spans alone that write.
func TestSpansThatWrite(t *testing.T) {
	bounds := spans(1, 2, 4, 5, 7, 8, 10, 11)
	for which := range 16 {
		var l []api.SpanT
		var writes []api.Span
		for i, x := range bounds {
			s := from(x.Lo, x.Hi)
			s.Write = which>>i&1 == 1
			if s.Write {
				writes = append(writes, x)
			}
			l = append(l, s)
		}
		has(t, l, nil, bounds, writes)
	}
	// One that writes inside one that reads alone, and the other way round.
	has(t, []api.SpanT{from(1, 9), written(from(3, 4))}, nil, spans(1, 9), spans(3, 4))
	has(t, []api.SpanT{written(from(3, 4)), from(1, 9)}, nil, spans(1, 9), spans(3, 4))
	has(t, []api.SpanT{from(3, 4), written(from(1, 9))}, nil, spans(1, 9), spans(1, 9))
	has(t, []api.SpanT{from(3, 4), written(from(3, 4))}, nil, spans(3, 4), spans(3, 4))
	// Those that touch, or overlap, are one in what is read alone.
	has(t, []api.SpanT{from(1, 4), written(from(5, 9))}, nil, spans(1, 9), spans(5, 9))
	has(t, []api.SpanT{written(from(1, 4)), from(3, 9)}, nil, spans(1, 9), spans(1, 4))
	has(t, []api.SpanT{written(from(1, 2)), from(3, 3), written(from(4, 5))}, nil, spans(1, 5), spans(1, 2, 4, 5))
}

func TestSpansOfAFootprintThatMayNotBe(t *testing.T) {
	for _, args := range [][]int{nil, {1}, {1, 2}, {1, 2, 3}} {
		wrong := []api.KeyT{key(-1, -1), key(-1, 901), key(-1, 1000), key(-2, 5), key(len(args), 5), key(4, 5), key(len(args)-1, -1), key(len(args)-1, 901)}
		for _, x := range far {
			wrong = append(wrong, key(x, 5), key(-1, x))
		}
		for _, k := range wrong {
			for n := 1; n <= 4; n++ {
				for at := range n {
					l := times(written(from(3, 5)), n)
					l[at].Lo = k
					hasNone(t, l, args)
					l[at].Lo, l[at].Hi = key(-1, 3), k
					hasNone(t, l, args)
				}
			}
		}
		for n := 5; n < 9; n++ {
			hasNone(t, times(from(3, 5), n), args)
			hasNone(t, times(from(5, 3), n), args)
		}
		hasNone(t, times(from(3, 5), 257), args)
	}
}

// TestSpansOfAnArgumentThatIsNone: each of the arguments counts, whether a key hangs on it or not.
func TestSpansOfAnArgumentThatIsNone(t *testing.T) {
	for _, wrong := range append([]int{-99, -2, -1, 100, 101, 999}, far...) {
		for n := 1; n <= 3; n++ {
			for at := range n {
				args := []int{1, 2, 3}[:n]
				args[at] = wrong
				hasNone(t, nil, args)
				hasNone(t, []api.SpanT{from(3, 5)}, args)
				for arg := range n {
					hasNone(t, []api.SpanT{{Lo: key(arg, 3), Hi: key(-1, 5)}}, args)
					hasNone(t, []api.SpanT{{Lo: key(-1, 3), Hi: key(arg, 300), Write: true}}, args)
				}
			}
		}
	}
	for _, right := range []int{0, 99} {
		for n := 1; n <= 3; n++ {
			for at := range n {
				args := []int{1, 2, 3}[:n]
				args[at] = right
				hasAll(t, []api.SpanT{{Lo: key(at, 3), Hi: key(at, 5)}}, args, spans(3+right, 5+right))
			}
		}
	}
}

func TestSpansOfTooFewAndTooManyArguments(t *testing.T) {
	for arg := range 3 {
		for _, l := range [][]api.SpanT{{{Lo: key(arg, 5), Hi: key(-1, 900)}}, {{Lo: key(-1, 5), Hi: key(arg, 900)}}} {
			for n := range 9 {
				args := make([]int, n)
				if n > arg && n < 4 {
					hasAll(t, l, args, spans(5, 900))
				} else {
					hasNone(t, l, args)
				}
			}
		}
	}
	for _, n := range []int{4, 5, 8, 256} {
		hasNone(t, nil, make([]int, n))
		hasNone(t, []api.SpanT{from(3, 5)}, make([]int, n))
	}
	hasNone(t, nil, []int{1, 2, 3, 100})
}

func TestSpansOfAny(t *testing.T) {
	rnd := rand.New(rand.NewSource(2))
	both := [2]int{}
	for range 20000 {
		n := rnd.Intn(4)
		l, args := good(rnd, n), goodArgs(rnd, n)
		if len(l) > 0 && rnd.Intn(4) == 0 {
			i := rnd.Intn(len(l))
			l[i] = turned(rnd, l[i])
		}
		if n > 0 && rnd.Intn(4) == 0 {
			args[rnd.Intn(n)] = randomOf(rnd, -1, 0, 99, 100, randomOf(rnd, far...))
		}
		if suits(l, args) {
			r, w := setsOf(l, args)
			has(t, l, args, r.plain(), w.plain())
			both[1]++
		} else {
			hasNone(t, l, args)
			both[0]++
		}
	}
	if min(both[0], both[1]) < 3000 {
		t.Error("what is tried is of one sort:", both)
	}
}

// P10.2

// covers sees to it that a footprint covers reads and writes, or doesn't, as the model says too.
func covers(t *testing.T, l []api.SpanT, args []int, reads, writes []api.Span, want bool) {
	t.Helper()
	if coversIn(l, args, reads, writes) != want {
		t.Fatalf("the model of %v, %d, %v, %v", l, args, reads, writes)
	}
	if Covers(l, args, reads, writes) != want {
		t.Errorf("Covers(%v, %d, %v, %v): %t", l, args, reads, writes, !want)
	}
}

func TestCovers(t *testing.T) {
	l := []api.SpanT{{Lo: key(0, 5), Hi: key(0, 7), Write: true}, from(20, 29)}
	covers(t, l, []int{5}, spans(10, 12, 20, 29), spans(10, 12), true)
	covers(t, l, []int{5}, spans(11, 11, 25, 26), spans(12, 12), true)
	covers(t, l, []int{5}, spans(25, 26, 11, 11, 25, 26), spans(12, 12, 10, 11), true)
	covers(t, l, []int{6}, spans(10, 12, 20, 29), nil, false)
	covers(t, l, []int{6}, nil, spans(10, 12), false)
	covers(t, l, []int{12}, spans(17, 29), spans(17, 19), true)
	covers(t, l, []int{11}, spans(16, 29), nil, false)
}

// TestCoversKeyByKey: reads and writes that reach one key too far at either end.
func TestCoversKeyByKey(t *testing.T) {
	l := []api.SpanT{written(from(10, 14)), {Lo: key(0, 15), Hi: key(1, 15), Write: true}, from(30, 35), written(from(40, 40))}
	args := []int{0, 5}
	for k := range 1000 {
		w := k >= 10 && k <= 20 || k == 40
		r := w || k >= 30 && k <= 35
		covers(t, l, args, spans(k, k), nil, r)
		covers(t, l, args, nil, spans(k, k), w)
		covers(t, l, args, spans(k, k), spans(k, k), w)
	}
	for _, c := range []struct {
		l    []api.Span
		r, w bool
	}{
		{spans(10, 20), true, true}, {spans(9, 20), false, false}, {spans(10, 21), false, false}, {spans(11, 19), true, true},
		{spans(30, 35), true, false}, {spans(29, 35), false, false}, {spans(30, 36), false, false},
		{spans(40, 40), true, true}, {spans(39, 40), false, false}, {spans(40, 41), false, false},
		{spans(10, 20, 40, 40), true, true}, {spans(10, 20, 30, 30), true, false}, {spans(10, 40), false, false}, {spans(0, 999), false, false},
	} {
		covers(t, l, args, c.l, nil, c.r)
		covers(t, l, args, nil, c.l, c.w)
		covers(t, l, args, spans(12, 12), c.l, c.w)
		covers(t, l, args, c.l, spans(12, 12), c.r)
	}
	all := []api.SpanT{{Lo: key(0, 0), Hi: key(1, 900), Write: true}}
	covers(t, all, []int{0, 99}, spans(0, 999), spans(0, 999), true)
	covers(t, all, []int{1, 99}, spans(0, 999), nil, false)
	covers(t, all, []int{0, 98}, nil, spans(0, 999), false)
}

// TestCoversWritesByWritesAlone: writes that are among the reads alone aren't covered; reads among the writes are.
func TestCoversWritesByWritesAlone(t *testing.T) {
	l := []api.SpanT{from(1, 9), written(from(5, 6))}
	covers(t, l, nil, spans(1, 9), spans(5, 6), true)
	covers(t, l, nil, nil, spans(4, 4), false)
	covers(t, l, nil, nil, spans(4, 6), false)
	covers(t, l, nil, spans(1, 9), spans(5, 7), false)
	covers(t, l, nil, spans(5, 6), nil, true)
	covers(t, []api.SpanT{from(1, 9)}, nil, spans(1, 9), spans(5, 5), false)
	covers(t, []api.SpanT{written(from(1, 9))}, nil, spans(1, 9), nil, true)
	// Each list is asked of its own, one alone isn't enough.
	covers(t, l, nil, spans(10, 10), spans(5, 6), false)
	covers(t, l, nil, spans(10, 10), spans(4, 4), false)
}

// TestCoversOfNoKeys: nothing to read, or to write, or nothing but spans that may not be.
func TestCoversOfNoKeys(t *testing.T) {
	nothing := [][]api.Span{nil, {}, spans(5, 4), spans(-1, 3), spans(999, 1000), spans(-5, -1, 1000, 1001, 7, 2), spans(math.MinInt, math.MaxInt, math.MaxInt, math.MinInt)}
	for _, l := range [][]api.SpanT{nil, {}, {from(5, 4)}, {from(5, 5)}, {written(from(1, 9))}, times(written(from(9, 1)), 4)} {
		for _, a := range nothing {
			for _, b := range nothing {
				covers(t, l, nil, a, b, true)
				covers(t, l, []int{0, 99}, a, b, true)
				covers(t, l, []int{0, 100}, a, b, false)
				covers(t, l, make([]int, 4), a, b, false)
				covers(t, append(slices.Clone(l), api.SpanT{Hi: key(2, 5)}), []int{1, 2}, a, b, false)
			}
			covers(t, l, nil, append(spans(5, 5), a...), nil, len(l) == 1 && l[0].Hi.Base >= 5)
			covers(t, l, nil, nil, append(spans(5, 5), a...), len(l) == 1 && l[0].Write)
			covers(t, l, nil, append(slices.Clone(a), spans(100, 100)...), a, false)
			covers(t, l, nil, a, append(slices.Clone(a), spans(100, 100)...), false)
		}
	}
}

// TestCoversOfWhatMayNotBe: a footprint that may not be, or arguments that may not, cover nothing, what others would cover neither.
func TestCoversOfWhatMayNotBe(t *testing.T) {
	l := []api.SpanT{written(from(0, 900)), {Lo: key(0, 0), Hi: key(1, 900), Write: true}}
	covers(t, l, []int{1, 2}, spans(3, 4), spans(3, 4), true)
	for _, args := range [][]int{nil, {}, {1}, {-1, 1}, {1, -1}, {100, 1}, {1, 100}, {1, 2, -1}, {1, 2, 100}, {1, 2, 3, 4}, {math.MinInt, 1}, {1, math.MaxInt}} {
		covers(t, l, args, spans(3, 4), spans(3, 4), false)
		covers(t, l, args, nil, nil, false)
	}
	for _, wrong := range []api.SpanT{{Lo: key(-2, 1)}, {Hi: key(2, 1)}, {Lo: key(-1, -1)}, {Hi: key(-1, 901)}} {
		for at := range 3 {
			covers(t, slices.Insert(slices.Clone(l), at, wrong), []int{1, 2}, spans(3, 4), spans(3, 4), false)
			covers(t, slices.Insert(slices.Clone(l), at, wrong), []int{1, 2}, nil, nil, false)
		}
	}
	covers(t, append(slices.Clone(l), l...), []int{1, 2}, spans(3, 4), spans(3, 4), true)
	covers(t, append(slices.Clone(l), l[0], l[0], l[0]), []int{1, 2}, spans(3, 4), spans(3, 4), false)
}

func TestCoversOfAny(t *testing.T) {
	rnd := rand.New(rand.NewSource(3))
	both := [2]int{}
	for range 30000 {
		n := rnd.Intn(4)
		l, args := good(rnd, n), goodArgs(rnd, n)
		reads, writes := anySpans(rnd), anySpans(rnd)
		if r, w := setsOf(l, args); rnd.Intn(3) > 0 {
			reads, writes = r.plain(), w.plain()
			// One end of one of them is moved by a key, or none.
			if at := randomOf(rnd, reads, writes); len(at) > 0 {
				*randomOf(rnd, &at[0].Lo, &at[len(at)-1].Hi) += rnd.Intn(3) - 1
			}
		}
		if n > 0 && rnd.Intn(9) == 0 {
			args[rnd.Intn(n)] = randomOf(rnd, -1, 100)
		}
		want := coversIn(l, args, reads, writes)
		covers(t, l, args, reads, writes, want)
		if want {
			both[1]++
		} else {
			both[0]++
		}
	}
	if min(both[0], both[1]) < 5000 {
		t.Error("what is tried is of one sort:", both)
	}
}

// P10.3: Put.

// put tells what Put writes of a footprint.
func put(l []api.SpanT) []uint64 {
	var w codes.Writer
	Put(&w, l)
	return w.Done()
}

// TestPutInNumbers holds words against such as were worked out by hand.
func TestPutInNumbers(t *testing.T) {
	for _, c := range []struct {
		l    []api.SpanT
		want []uint64
	}{
		{nil, []uint64{0}},
		{[]api.SpanT{}, []uint64{0}},
		{[]api.SpanT{{Lo: key(0, 5), Hi: key(1, 7), Write: true}}, []uint64{1, 0, 5, 2, 7, 1}},
		{[]api.SpanT{{Lo: key(0, 5), Hi: key(1, 7)}}, []uint64{1, 0, 5, 2, 7, 0}},
		{[]api.SpanT{{Lo: key(-1, 900), Hi: key(2, 0)}}, []uint64{1, 1, 900, 4, 0, 0}},
		{[]api.SpanT{from(1, 2), written(from(3, 4))}, []uint64{2, 1, 1, 1, 2, 0, 1, 3, 1, 4, 1}},
		{[]api.SpanT{{}}, []uint64{1, 0, 0, 0, 0, 0}},
		{[]api.SpanT{{Lo: key(-2, -1), Hi: key(255, 1000)}}, []uint64{1, 3, 0, 510, 1000, 0}},
		{[]api.SpanT{{Lo: key(math.MaxInt, math.MinInt), Hi: key(math.MinInt, math.MaxInt), Write: true}}, []uint64{1, math.MaxUint64 - 1, 0, math.MaxUint64, math.MaxInt64, 1}},
	} {
		if l := put(c.l); !slices.Equal(l, c.want) || !slices.Equal(wordsOf(c.l), c.want) {
			t.Errorf("Put(%v): %d, not %d (the model: %d)", c.l, l, c.want, wordsOf(c.l))
		}
	}
}

func TestPutOfHowMany(t *testing.T) {
	for n := range 9 {
		for _, s := range some() {
			if l := put(times(s, n)); !slices.Equal(l, wordsOf(times(s, n))) {
				t.Errorf("Put of %v %d times: %d", s, n, l)
			}
		}
	}
}

// TestPutOfAny: of footprints that may not be, too, it writes what a Writer's calls do.
func TestPutOfAny(t *testing.T) {
	rnd := rand.New(rand.NewSource(4))
	for range 20000 {
		l := good(rnd, rnd.Intn(4))
		if len(l) > 0 && rnd.Intn(2) == 0 {
			i := rnd.Intn(len(l))
			l[i] = turned(rnd, l[i])
		}
		if w := put(l); !slices.Equal(w, wordsOf(l)) {
			t.Fatalf("Put(%v): %d, not %d", l, w, wordsOf(l))
		}
	}
}

func TestPutWritesBehind(t *testing.T) {
	var w codes.Writer
	w.Count(5)
	Put(&w, some())
	w.Flag(true)
	Put(&w, some()[1:3])
	want := slices.Concat([]uint64{5}, wordsOf(some()), []uint64{1}, wordsOf(some()[1:3]))
	if l := w.Done(); !slices.Equal(l, want) {
		t.Errorf("%d, not %d", l, want)
	}
}

func TestPutOfNoWriter(t *testing.T) {
	Put(nil, nil)
	Put(nil, some())
}

// P10.3: Get.

// reads sees to it that a footprint is read from words, and that those behind it are left.
func reads(t *testing.T, words []uint64, want []api.SpanT, behind int) {
	t.Helper()
	r := codes.NewReader(words)
	if l := Get(r); !slices.Equal(l, want) || !r.Ok() || r.End() != (behind == 0) {
		t.Errorf("Get of %d: %v, %t, not %v", words, l, r.Ok(), want)
	}
	for i := range behind {
		if w := r.Signed(); w != unsigned(words[len(words)-behind+i]) || !r.Ok() {
			t.Errorf("behind a footprint of %d: %d", words, w)
		}
	}
	if !r.End() {
		t.Errorf("something is left of %d", words)
	}
}

// readsNone sees to it that no footprint is read from words, and that the reader isn't right from then on, however much is left.
func readsNone(t *testing.T, words []uint64) {
	t.Helper()
	for _, l := range [][]uint64{words, append(slices.Clone(words), make([]uint64, 40)...)} {
		if _, _, ok := footOf(l); ok {
			continue
		}
		r := codes.NewReader(l)
		if p := Get(r); len(p) != 0 || r.Ok() || r.End() {
			t.Errorf("Get of %d: %v, %t", l, p, r.Ok())
		}
		if p := Get(r); len(p) != 0 || r.Ok() || r.Count(9) != 0 || r.Signed() != 0 {
			t.Errorf("Get again of %d: %v, %t", l, p, r.Ok())
		}
	}
}

func TestGet(t *testing.T) {
	reads(t, []uint64{0}, nil, 0)
	reads(t, []uint64{0, 1, 1}, nil, 2)
	reads(t, []uint64{1, 2, 5, 1, 7, 1}, []api.SpanT{{Lo: key(1, 5), Hi: key(-1, 7), Write: true}}, 0)
	reads(t, []uint64{1, 2, 5, 1, 7, 0}, []api.SpanT{{Lo: key(1, 5), Hi: key(-1, 7)}}, 0)
	for n := range 5 {
		for _, s := range some() {
			l := times(s, n)
			reads(t, wordsOf(l), l, 0)
			reads(t, append(wordsOf(l), 1, math.MaxUint64, 0), l, 3)
		}
	}
	reads(t, wordsOf(some()), some(), 0)
}

// TestGetOfMoreThanMayBe: words are read as far as they fit, whether the footprint may be or not.
func TestGetOfMoreThanMayBe(t *testing.T) {
	l := []api.SpanT{{}, {Lo: key(255, 999), Hi: key(255, 999), Write: true}, {Lo: key(3, 901), Hi: key(-1, 901)}, from(900, 0)}
	reads(t, wordsOf(l), l, 0)
}

// TestGetOfEachWord tries each word of each span at its edges, all others as they may be.
func TestGetOfEachWord(t *testing.T) {
	tried := []uint64{0, 1, 2, 3, 4, 5, 254, 255, 256, 257, 509, 510, 511, 512, 513, 514, 998, 999, 1000, 1001, 1 << 16, 1 << 31, 1 << 32, 1<<32 + 1, 1<<32 + 2, 1 << 33, 1 << 63, 1<<63 + 1, 1<<63 + 2, math.MaxUint64 - 1, math.MaxUint64}
	for at := range 4 {
		for place := range 5 {
			for _, w := range tried {
				words := wordsOf(some())
				words[1+5*at+place] = w
				want, _, ok := footOf(words)
				if ok != fitsIn(place, w) {
					t.Fatalf("the model of %d", words)
				}
				if ok {
					reads(t, words, want, 0)
				} else {
					readsNone(t, words)
				}
			}
		}
	}
}

// TestGetAtTheEdges says the same in numbers: what is read, and what isn't.
func TestGetAtTheEdges(t *testing.T) {
	lo, hi := []uint64{1, 510, 0}, []uint64{3, 512, 514}
	for place, edge := range [][2][]uint64{{lo, hi}, {{0, 999}, {1000, 1001}}, {lo, hi}, {{0, 999}, {1000, 1001}}, {{0, 1}, {2, 3}}} {
		for _, w := range edge[0] {
			l := make([]uint64, 6)
			l[0], l[1+place] = 1, w
			r := codes.NewReader(l)
			if p := Get(r); len(p) != 1 || !r.End() || !slices.Equal(put(p), l) {
				t.Errorf("%d at %d: %v", w, place, p)
			}
		}
		for _, w := range append([]uint64{math.MaxUint64, math.MaxUint64 - 1, 1 << 40}, edge[1]...) {
			l := make([]uint64, 6)
			l[0], l[1+place] = 1, w
			readsNone(t, l)
		}
	}
}

func TestGetOfHowMany(t *testing.T) {
	for _, n := range []uint64{5, 6, 8, 255, 256, 257, 1 << 32, 1<<32 + 1, 1 << 63, 1<<63 + 1, math.MaxUint64} {
		for _, s := range some() {
			words := wordsOf(times(s, 5))
			words[0] = n
			readsNone(t, words)
		}
		readsNone(t, []uint64{n})
		readsNone(t, append([]uint64{n}, make([]uint64, 200)...))
	}
	reads(t, append([]uint64{4}, make([]uint64, 20)...), make([]api.SpanT, 4), 0)
}

func TestGetOfWordsThatEndTooEarly(t *testing.T) {
	for n := 1; n <= 4; n++ {
		words := wordsOf(some()[4-n:])
		for end := range words {
			r := codes.NewReader(words[:end])
			if l := Get(r); len(l) != 0 || r.Ok() || r.End() {
				t.Errorf("Get of the first %d words of %d: %v, %t", end, words, l, r.Ok())
			}
		}
	}
	readsNone(t, nil)
}

func TestGetOfSomeOneBehindTheOther(t *testing.T) {
	r := codes.NewReader(slices.Concat([]uint64{7}, wordsOf(some()), wordsOf(nil), wordsOf(some()[:2]), []uint64{1}))
	if n := r.Count(9); n != 7 {
		t.Fatal(n)
	}
	for i, want := range [][]api.SpanT{some(), nil, some()[:2]} {
		if l := Get(r); !slices.Equal(l, want) || !r.Ok() || r.End() {
			t.Errorf("the footprint %d: %v", i, l)
		}
	}
	if !r.Flag() || !r.End() {
		t.Error("the flag behind")
	}
}

func TestGetOfAReaderThatIsNotRight(t *testing.T) {
	for name, spoil := range map[string]func(r *codes.Reader){
		"a flag":  func(r *codes.Reader) { r.Flag() },
		"a count": func(r *codes.Reader) { r.Count(1) },
		"words":   func(r *codes.Reader) { r.Words(1) },
	} {
		r := codes.NewReader(append([]uint64{2}, wordsOf(some())...))
		spoil(r)
		if l := Get(r); len(l) != 0 || r.Ok() || r.End() {
			t.Errorf("%s: %v, %t", name, l, r.Ok())
		}
	}
}

func TestGetOfNoReader(t *testing.T) {
	if l := Get(nil); len(l) != 0 {
		t.Error("of nil:", l)
	}
	var r codes.Reader
	if l := Get(&r); len(l) != 0 || r.Ok() {
		t.Error("of a zero value:", l)
	}
}

// TestGetOfAny holds Get of words that were spoilt somewhere, or cut, against the model.
func TestGetOfAny(t *testing.T) {
	rnd := rand.New(rand.NewSource(5))
	both := [2]int{}
	for range 50000 {
		words := wordsOf(good(rnd, rnd.Intn(4)))
		for range rnd.Intn(3) {
			words[rnd.Intn(len(words))] = rnd.Uint64() >> randomOf(rnd, rnd.Intn(64), 48+rnd.Intn(16), 56, 62)
		}
		if rnd.Intn(8) == 0 {
			words = words[:rnd.Intn(len(words)+1)]
		}
		for range rnd.Intn(3) {
			words = append(words, rnd.Uint64())
		}
		if want, takes, ok := footOf(words); ok {
			reads(t, words, want, len(words)-takes)
			both[1]++
		} else {
			readsNone(t, words)
			both[0]++
		}
	}
	if min(both[0], both[1]) < 5000 {
		t.Error("what is tried is of one sort:", both)
	}
}

// TestReadFromItsWords: a footprint that may be is read from its words, whatever stands ahead of them and behind.
func TestReadFromItsWords(t *testing.T) {
	rnd := rand.New(rand.NewSource(6))
	for range 20000 {
		args := rnd.Intn(4)
		var all [][]api.SpanT
		var w codes.Writer
		w.Signed(-5)
		for range 1 + rnd.Intn(3) {
			l := good(rnd, args)
			if !May(l, args) {
				t.Fatalf("May(%v, %d)", l, args)
			}
			all = append(all, l)
			Put(&w, l)
		}
		w.Text("ab")
		r := codes.NewReader(w.Done())
		if x := r.Signed(); x != -5 {
			t.Fatal(x)
		}
		for _, want := range all {
			if l := Get(r); !slices.Equal(l, want) || !r.Ok() {
				t.Fatalf("%v is read as %v", want, l)
			}
		}
		if s := r.Text(); s != "ab" || !r.End() {
			t.Fatal("the text behind:", s)
		}
	}
}

// P10.4

// coversItself sees to it that what a footprint writes it reads too, key by key, and that it covers both, and nothing beyond them.
func coversItself(t *testing.T, l []api.SpanT, args []int) {
	t.Helper()
	r, w, ok := Spans(l, args)
	if !ok || !May(l, len(args)) {
		t.Fatalf("Spans(%v, %d): %t", l, args, ok)
	}
	var read, wrote keySet
	for _, s := range r {
		read.fill(s.Lo, s.Hi)
	}
	for _, s := range w {
		wrote.fill(s.Lo, s.Hi)
	}
	if !read.has(w) {
		t.Errorf("%v, %d: %v is written, but not read: %v", l, args, w, r)
	}
	if !Covers(l, args, r, w) || !Covers(l, args, w, w) || !Covers(l, args, r, nil) || !Covers(l, args, w, nil) {
		t.Errorf("%v doesn't cover itself for %d: %v, %v", l, args, r, w)
	}
	if Covers(l, args, r, r) != wrote.has(r) {
		t.Errorf("%v, %d: what is read is written: %v, %v", l, args, r, w)
	}
	for _, s := range r {
		for _, k := range []int{s.Lo - 1, s.Hi + 1} {
			if k >= 0 && k <= 999 && Covers(l, args, append(slices.Clone(r), spans(k, k)...), w) {
				t.Errorf("%v covers the key %d for %d", l, k, args)
			}
		}
	}
}

func TestAFootprintCoversItself(t *testing.T) {
	coversItself(t, some(), []int{1, 4})
	coversItself(t, some(), []int{4, 1})
	coversItself(t, some(), []int{0, 99, 99})
	coversItself(t, nil, nil)
	coversItself(t, nil, []int{0, 99, 1})
	coversItself(t, times(written(from(0, 900)), 4), nil)
	coversItself(t, times(from(9, 8), 4), nil)
	rnd := rand.New(rand.NewSource(7))
	for range 20000 {
		n := rnd.Intn(4)
		coversItself(t, good(rnd, n), goodArgs(rnd, n))
	}
}

// What is handed in is left as it was, its spare room too, and an answer is new memory.

func TestWhatIsHandedInIsLeftAsItWas(t *testing.T) {
	wasL := append(some(), api.SpanT{Lo: key(-9, -9), Hi: key(9, 1001), Write: true})
	wasR, wasW := spans(25, 26, 11, 11, 5, 4, 12, 12, 1000, -1), spans(12, 12, 10, 11, 3, 9, 7, 7)
	for _, wasArgs := range [][]int{{1, 4, 3, 9}, {99, 0, 100, -1}, {-1, 100, 99, 0}} {
		l, args, r, w := slices.Clone(wasL), slices.Clone(wasArgs), slices.Clone(wasR), slices.Clone(wasW)
		for n := range len(l) + 1 {
			for m := range len(args) + 1 {
				May(l[:n], m)
				Spans(l[:n], args[:m])
				Covers(l[:n], args[:m], r[:n], w[:m])
			}
			var x codes.Writer
			Put(&x, l[:n])
			if words := x.Done(); !slices.Equal(words, wordsOf(wasL[:n])) {
				t.Errorf("%v: %d", wasL[:n], words)
			}
		}
		if !slices.Equal(l, wasL) || !slices.Equal(args, wasArgs) || !slices.Equal(r, wasR) || !slices.Equal(w, wasW) {
			t.Errorf("changed: %v, %d, %v, %v", l, args, r, w)
		}
	}
}

func TestPutKeepsNothing(t *testing.T) {
	var w codes.Writer
	l := some()
	Put(&w, l)
	for i := range l {
		l[i] = api.SpanT{Lo: key(2, 8), Write: !l[i].Write}
	}
	if words := w.Done(); !slices.Equal(words, wordsOf(some())) {
		t.Errorf("%v is kept: %d", some(), words)
	}
}

// TestSpansShareNoMemory: two answers, and the two lists of one, go their own ways.
func TestSpansShareNoMemory(t *testing.T) {
	l := []api.SpanT{written(from(1, 2)), written(from(4, 5)), written(from(7, 8))}
	want := spans(1, 2, 4, 5, 7, 8)
	r, w, _ := Spans(l, nil)
	other, another, _ := Spans(l, nil)
	r = spoilt(r)
	if !slices.Equal(w, want) || !slices.Equal(other, want) || !slices.Equal(another, want) {
		t.Error("what is read is shared:", w, other, another)
	}
	w = spoilt(w)
	if r[0].Lo != -7 || w[0].Lo != -7 || !slices.Equal(other, want) || !slices.Equal(another, want) {
		t.Error("what is written is shared:", r, w, other, another)
	}
	has(t, l, nil, want, want)
}

// spoilt writes over all that a list has, its spare room too, and tells it.
func spoilt(l []api.Span) []api.Span {
	all := l[:cap(l)]
	for i := range all {
		all[i] = api.Span{Lo: -7, Hi: -7}
	}
	return l
}

func TestGetSharesNoMemory(t *testing.T) {
	words := slices.Concat(wordsOf(some()), wordsOf(some()[:3]))
	was := slices.Clone(words)
	r, other := codes.NewReader(words), codes.NewReader(words)
	a := Get(r)
	for i := range a {
		a[i] = from(99, 99)
	}
	a = append(a, from(98, 98))
	b := Get(r)
	if !slices.Equal(b, some()[:3]) || !r.End() {
		t.Errorf("the next footprint: %v", b)
	}
	b = append(b, from(97, 97))
	if l := Get(other); !slices.Equal(l, some()) {
		t.Errorf("the other reader's footprint: %v", l)
	}
	for i := range b {
		b[i] = from(96, 96)
	}
	if a[0] != from(99, 99) || a[4] != from(98, 98) || !slices.Equal(words, was) {
		t.Errorf("what was answered, or handed in: %v, %d", a, words)
	}
}

// TestTheSameAgain: nothing is kept from call to call.
func TestTheSameAgain(t *testing.T) {
	for range 3 {
		may(t, some(), 2, true)
		may(t, some(), 1, false)
		has(t, some(), []int{1, 4}, spans(0, 0, 6, 8, 10, 14), spans(6, 8))
		hasNone(t, some(), []int{1, 100})
		covers(t, some(), []int{1, 4}, spans(6, 6), spans(8, 8), true)
		covers(t, some(), []int{1, 4}, spans(6, 6), spans(9, 9), false)
		readsNone(t, []uint64{5})
		reads(t, wordsOf(some()), some(), 0)
		if l := put(some()); !slices.Equal(l, wordsOf(some())) {
			t.Error("Put:", l)
		}
	}
}
