package pages

import (
	"math"
	"math/rand"
	"slices"
	"testing"

	"gimmal/api"
)

// last is the greatest key that the document names.
const last = 999

// model has pages of pairs, and does with them what the document's words say, page by page and pair by pair.
type model [][]api.Pair

// isKey tells whether a number is a key.
func isKey(k int) bool { return k >= 0 && k <= last }

// page tells the page to which a key belongs.
func (m model) page(k int) int {
	in := 0
	for i, g := range m {
		if g[0].Key <= k {
			in = i
		}
	}
	return in
}

// put tells the model with a key's value put.
func (m model) put(k int, v int64) model {
	if len(m) == 0 {
		return model{{{Key: k, Value: v}}}
	}
	in := m.page(k)
	var g []api.Pair
	put := false
	for _, p := range m[in] {
		if !put && p.Key >= k {
			g, put = append(g, api.Pair{Key: k, Value: v}), true
		}
		if p.Key != k {
			g = append(g, p)
		}
	}
	if !put {
		g = append(g, api.Pair{Key: k, Value: v})
	}
	var out model
	for i := range m {
		switch {
		case i != in:
			out = append(out, m[i])
		case len(g) == 9:
			out = append(out, slices.Clone(g[:4]), slices.Clone(g[4:]))
		default:
			out = append(out, g)
		}
	}
	return out
}

// get tells a key's value, and whether there is one.
func (m model) get(k int) (int64, bool) {
	for _, g := range m {
		for _, p := range g {
			if p.Key == k {
				return p.Value, true
			}
		}
	}
	return 0, false
}

// joined tells the model with a page and the next one as one, and whether they have at most 4 pairs together.
func (m model) joined(i int) (model, bool) {
	if i < 0 || i+1 >= len(m) || len(m[i])+len(m[i+1]) > 4 {
		return m, false
	}
	var out model
	for k := range m {
		if k == i+1 {
			out[i] = slices.Concat(m[i], m[i+1])
		} else {
			out = append(out, m[k])
		}
	}
	return out, true
}

// remove tells the model with a key taken out that is there.
func (m model) remove(k int) model {
	in := m.page(k)
	var g []api.Pair
	for _, p := range m[in] {
		if p.Key != k {
			g = append(g, p)
		}
	}
	var out model
	for i := range m {
		if i != in {
			out = append(out, m[i])
		} else if len(g) > 0 {
			out = append(out, g)
		}
	}
	if len(g) == 0 {
		return out
	}
	if one, ok := out.joined(in); ok {
		return one
	}
	one, _ := out.joined(in - 1)
	return one
}

// list tells all pairs, rising.
func (m model) list() []api.Pair { return slices.Concat(m...) }

// firsts tells the first key of each page.
func (m model) firsts() []int {
	var l []int
	for _, g := range m {
		l = append(l, g[0].Key)
	}
	return l
}

// pairsOf tells pairs of keys, with values that hang on them.
func pairsOf(ks ...int) []api.Pair {
	var l []api.Pair
	for _, k := range ks {
		l = append(l, api.Pair{Key: k, Value: valueOf(k)})
	}
	return l
}

func valueOf(k int) int64 { return int64(k)*7 - 3 }

// run tells the keys from lo to hi, each step by.
func run(lo, hi, by int) []int {
	var l []int
	for k := lo; k <= hi; k += by {
		l = append(l, k)
	}
	return l
}

// with tells a store into which keys were put, one behind the other.
func with(t *testing.T, ks ...int) *Store {
	t.Helper()
	s := &Store{}
	put(t, s, ks...)
	return s
}

// put puts keys, one behind the other, that there may be.
func put(t *testing.T, s *Store, ks ...int) {
	t.Helper()
	for _, k := range ks {
		if e := s.Put(k, valueOf(k)); e != api.OK {
			t.Errorf("Put(%d): %d", k, e)
		}
	}
}

// remove takes keys out, one behind the other, that there must be.
func remove(t *testing.T, s *Store, ks ...int) {
	t.Helper()
	for _, k := range ks {
		if e := s.Delete(k); e != api.OK {
			t.Errorf("Delete(%d): %d", k, e)
		}
	}
}

// begin sees to it that the pages begin with these keys.
func begin(t *testing.T, s *Store, want ...int) {
	t.Helper()
	if l := s.Pages(); !slices.Equal(l, want) {
		t.Errorf("Pages: %d, not %d", l, want)
	}
}

// has sees to it that a store has these pairs, and no others.
func has(t *testing.T, s *Store, want []api.Pair) {
	t.Helper()
	if l := s.Scan(0, last); !slices.Equal(l, want) {
		t.Errorf("Scan of all: %d, not %d", l, want)
	}
	if s.Len() != len(want) {
		t.Errorf("Len: %d, not %d", s.Len(), len(want))
	}
}

// gets sees to it that a key has a value.
func gets(t *testing.T, s *Store, k int, want int64) {
	t.Helper()
	if v, e := s.Get(k); v != want || e != api.OK {
		t.Errorf("Get(%d): %d, %d, not %d", k, v, e, want)
	}
}

// getsNone sees to it that a key has no value.
func getsNone(t *testing.T, s *Store, ks ...int) {
	t.Helper()
	for _, k := range ks {
		if v, e := s.Get(k); v != 0 || e != api.ErrNone {
			t.Errorf("Get(%d): %d, %d", k, v, e)
		}
	}
}

// sizes sees to it that each page has 1 to 8 pairs.
func sizes(t *testing.T, s *Store) {
	t.Helper()
	l := s.Pages()
	for i, k := range l {
		hi := last
		if i+1 < len(l) {
			hi = l[i+1] - 1
		}
		if n := len(s.Scan(k, hi)); n < 1 || n > 8 {
			t.Errorf("the page of %d has %d pairs", k, n)
		}
	}
}

// check sees to it that a store is as a model is.
func check(t *testing.T, s *Store, m model) {
	t.Helper()
	begin(t, s, m.firsts()...)
	has(t, s, m.list())
	sizes(t, s)
}

// checkGet sees to it that each key's value is the model's.
func checkGet(t *testing.T, s *Store, m model) {
	t.Helper()
	for k := range last + 1 {
		if v, ok := m.get(k); ok {
			gets(t, s, k, v)
		} else {
			getsNone(t, s, k)
		}
	}
}

// noKeys has what is no key; some would be one if higher bits were cut off.
func noKeys() []int {
	return []int{-1, -2, -5, 1000, 1001, 1024, -999, -1000, 1 << 16, 1<<16 + 5, 1 << 32, 1<<32 + 5, -1 << 32, -1<<32 + 5, math.MinInt, math.MinInt + 5, math.MaxInt, math.MaxInt - 1}
}

// P5.1: Put, Get and Delete.

func TestPutAndGet(t *testing.T) {
	s := &Store{}
	for _, p := range []api.Pair{{Key: 0, Value: 1}, {Key: 999, Value: -1}, {Key: 5, Value: 0}, {Key: 6, Value: math.MinInt64}, {Key: 7, Value: math.MaxInt64}, {Key: 500, Value: 1 << 40}} {
		getsNone(t, s, p.Key)
		if e := s.Put(p.Key, p.Value); e != api.OK {
			t.Errorf("Put(%d): %d", p, e)
		}
		gets(t, s, p.Key, p.Value)
	}
	getsNone(t, s, 1, 4, 8, 499, 501, 998)
	has(t, s, []api.Pair{{Key: 0, Value: 1}, {Key: 5, Value: 0}, {Key: 6, Value: math.MinInt64}, {Key: 7, Value: math.MaxInt64}, {Key: 500, Value: 1 << 40}, {Key: 999, Value: -1}})
}

func TestWhatIsNoKeyIsRefused(t *testing.T) {
	for _, ks := range [][]int{nil, {0, 999}, run(0, 9, 1), run(0, 999, 9), run(0, 999, 1)} {
		s := with(t, ks...)
		pages := s.Pages()
		for _, k := range noKeys() {
			if e := s.Put(k, 5); e != api.ErrRange {
				t.Errorf("Put(%d): %d", k, e)
			}
			if v, e := s.Get(k); v != 0 || e != api.ErrRange {
				t.Errorf("Get(%d): %d, %d", k, v, e)
			}
			if e := s.Delete(k); e != api.ErrRange {
				t.Errorf("Delete(%d): %d", k, e)
			}
		}
		has(t, s, pairsOf(ks...))
		begin(t, s, pages...)
	}
}

func TestAKeyThatIsThereIsPutAnew(t *testing.T) {
	for n := 1; n <= 30; n++ {
		s := with(t, run(0, 2*n-2, 2)...)
		pages := s.Pages()
		for i := range n {
			for _, v := range []int64{int64(i) + 100, 0, 0, -7} {
				if e := s.Put(2*i, v); e != api.OK {
					t.Errorf("Put(%d) anew: %d", 2*i, e)
				}
				gets(t, s, 2*i, v)
			}
			begin(t, s, pages...)
			if s.Len() != n {
				t.Errorf("%d keys of %d, one put anew", s.Len(), n)
			}
		}
		for i := range n {
			gets(t, s, 2*i, -7)
		}
	}
}

func TestTheFirstPage(t *testing.T) {
	for _, k := range []int{0, 1, 500, 998, 999} {
		s := with(t, k)
		begin(t, s, k)
		has(t, s, pairsOf(k))
		remove(t, s, k)
		begin(t, s)
		has(t, s, nil)
		put(t, s, 3)
		begin(t, s, 3)
		has(t, s, pairsOf(3))
	}
}

// TestANinthPair puts a ninth pair to each place of a page of 8: the first 4 and the other 5 are pages then.
func TestANinthPair(t *testing.T) {
	for at := range 9 {
		s := with(t, run(10, 80, 10)...)
		begin(t, s, 10)
		k := 10*at + 5
		put(t, s, k)
		want := append(run(10, 80, 10), k)
		slices.Sort(want)
		begin(t, s, want[0], want[4])
		has(t, s, pairsOf(want...))
		sizes(t, s)
	}
}

func TestTheExampleOfTheDocument(t *testing.T) {
	begin(t, with(t, run(0, 7, 1)...), 0)
	begin(t, with(t, run(0, 8, 1)...), 0, 4)
}

func TestWhereAKeyBelongs(t *testing.T) {
	for _, c := range []struct{ keys, behind, pages []int }{
		{[]int{10, 20}, []int{5}, []int{5}}, // below the first key of the only page
		{run(10, 90, 10), []int{5}, []int{5, 50}},
		{run(10, 90, 10), []int{5, 4, 3, 2}, []int{2, 50}},              // 8 pairs of the first page
		{run(10, 90, 10), []int{5, 4, 3, 2, 1}, []int{1, 5, 50}},        // 9: 1 to 4, 5 to 40
		{run(10, 90, 10), []int{45}, []int{10, 50}},                     // between two pages: to the lower one
		{run(10, 90, 10), []int{45, 46, 47, 49}, []int{10, 50}},         // 8
		{run(10, 90, 10), []int{45, 46, 47, 48, 49}, []int{10, 45, 50}}, // 9: 10 to 40, 45 to 49
		{run(10, 90, 10), []int{51, 52, 53}, []int{10, 50}},
		{run(10, 90, 10), []int{51, 52, 53, 54}, []int{10, 50, 54}},
		{run(10, 90, 10), []int{95, 999, 998, 997}, []int{10, 50, 90}},
		{run(10, 90, 10), []int{50, 10, 90, 40}, []int{10, 50}},
		{run(0, 16, 1), nil, []int{0, 4, 8, 12}},
		{run(0, 20, 1), nil, []int{0, 4, 8, 12, 16}},
		{[]int{999, 998, 997, 996, 995, 994, 993, 992, 991}, nil, []int{991, 995}},
		{[]int{999, 998, 997, 996, 995, 994, 993, 992, 991, 990, 989, 988, 987}, nil, []int{987, 995}},
		{[]int{999, 998, 997, 996, 995, 994, 993, 992, 991, 990, 989, 988, 987, 986}, nil, []int{986, 990, 995}},
	} {
		s := with(t, c.keys...)
		put(t, s, c.behind...)
		begin(t, s, c.pages...)
		sizes(t, s)
		for _, k := range append(slices.Clone(c.keys), c.behind...) {
			gets(t, s, k, valueOf(k))
		}
		if t.Failed() {
			t.Fatal("of", c.keys, c.behind)
		}
	}
}

func TestDelete(t *testing.T) {
	s := with(t, 0, 5, 999)
	for _, k := range []int{1, 4, 6, 998} {
		if e := s.Delete(k); e != api.ErrNone {
			t.Errorf("Delete(%d): %d", k, e)
		}
	}
	has(t, s, pairsOf(0, 5, 999))
	for i, k := range []int{5, 999, 0} {
		remove(t, s, k)
		getsNone(t, s, k)
		if e := s.Delete(k); e != api.ErrNone {
			t.Errorf("Delete(%d) once more: %d", k, e)
		}
		has(t, s, [][]api.Pair{pairsOf(0, 999), pairsOf(0), nil}[i])
	}
	put(t, s, 5)
	gets(t, s, 5, valueOf(5))
}

func TestDeleteOfAKeyThatIsNotThere(t *testing.T) {
	for _, ks := range [][]int{nil, {10}, run(10, 80, 10), run(10, 90, 10), run(10, 900, 10)} {
		s := with(t, ks...)
		pages := s.Pages()
		for k := range last + 1 {
			if slices.Contains(ks, k) {
				continue
			}
			if e := s.Delete(k); e != api.ErrNone {
				t.Errorf("Delete(%d) of %d: %d", k, ks, e)
			}
		}
		begin(t, s, pages...)
		has(t, s, pairsOf(ks...))
	}
}

// threePages tells a store of pages that begin with 100, 200 and 300 and have so many pairs, of keys one behind the other; no two next to each other less than 5 together.
func threePages(t *testing.T, a, b, c int) *Store {
	t.Helper()
	s := with(t, slices.Concat(run(100, 103, 1), run(200, 204, 1), run(300, 303, 1))...)
	begin(t, s, 100, 200, 204)
	remove(t, s, 204)
	put(t, s, slices.Concat(run(104, 107, 1), run(204, 207, 1), run(304, 307, 1))...)
	remove(t, s, slices.Concat(run(100+a, 107, 1), run(200+b, 207, 1), run(300+c, 307, 1))...)
	begin(t, s, 100, 200, 300)
	return s
}

func TestAPageWhoseLastPairIsTakenOut(t *testing.T) {
	only := with(t, 7)
	remove(t, only, 7)
	begin(t, only)
	for _, c := range []struct {
		a, b, c int
		gone    int
		pages   []int
	}{
		{1, 4, 4, 100, []int{200, 300}}, {4, 1, 4, 200, []int{100, 300}}, {4, 4, 1, 300, []int{100, 200}},
		{1, 8, 8, 100, []int{200, 300}}, {8, 1, 8, 200, []int{100, 300}}, {8, 8, 1, 300, []int{100, 200}},
	} {
		s := threePages(t, c.a, c.b, c.c)
		remove(t, s, c.gone)
		begin(t, s, c.pages...)
		has(t, s, slices.Concat(threePages(t, c.a, c.b, c.c).Scan(0, c.gone-1), threePages(t, c.a, c.b, c.c).Scan(c.gone+1, last)))
		getsNone(t, s, c.gone)
	}
}

// TestTwoPagesBecomeOne takes pairs out of pages until two of them have 5 pairs together, and then 4.
func TestTwoPagesBecomeOne(t *testing.T) {
	for _, c := range []struct {
		a, b, c int // how many pairs the pages have
		out     int
		pages   []int // behind it
	}{
		// The first page, and the next one: 4, and 5.
		{4, 1, 8, 100, []int{101, 300}}, {4, 1, 8, 103, []int{100, 300}}, {3, 2, 3, 102, []int{100, 300}},
		{5, 1, 8, 104, []int{100, 200, 300}}, {4, 2, 8, 103, []int{100, 200, 300}}, {3, 3, 3, 101, []int{100, 200, 300}},
		// The last page, and the one ahead.
		{8, 1, 4, 300, []int{100, 200}}, {8, 1, 4, 303, []int{100, 200}}, {3, 2, 3, 302, []int{100, 200}},
		{8, 1, 5, 304, []int{100, 200, 300}}, {8, 2, 4, 303, []int{100, 200, 300}}, {3, 3, 3, 301, []int{100, 200, 300}},
		// The page between, and the next one.
		{8, 4, 1, 203, []int{100, 200}}, {3, 3, 2, 202, []int{100, 200}}, {8, 4, 1, 200, []int{100, 201}},
		{8, 4, 2, 203, []int{100, 200, 300}}, {3, 3, 3, 201, []int{100, 200, 300}},
		// The page between, and the one ahead.
		{2, 3, 8, 202, []int{100, 300}}, {3, 2, 8, 200, []int{100, 300}}, {2, 3, 3, 201, []int{100, 300}},
		// With either one it has 4: the next one it is.
		{3, 2, 3, 200, []int{100, 201}}, {3, 2, 3, 201, []int{100, 200}}, {2, 3, 2, 200, []int{100, 201}}, {2, 3, 2, 201, []int{100, 200}}, {1, 4, 1, 200, []int{100, 201}}, {1, 4, 1, 203, []int{100, 200}},
	} {
		s := threePages(t, c.a, c.b, c.c)
		var want []int
		for _, k := range slices.Concat(run(100, 99+c.a, 1), run(200, 199+c.b, 1), run(300, 299+c.c, 1)) {
			if k != c.out {
				want = append(want, k)
			}
		}
		remove(t, s, c.out)
		begin(t, s, c.pages...)
		has(t, s, pairsOf(want...))
		sizes(t, s)
		if t.Failed() {
			t.Fatal("of", c)
		}
	}
}

func TestAZeroStoreHasNothing(t *testing.T) {
	s := &Store{}
	getsNone(t, s, 0, 5, 999)
	for _, k := range []int{0, 5, 999} {
		if e := s.Delete(k); e != api.ErrNone {
			t.Errorf("Delete(%d): %d", k, e)
		}
	}
	has(t, s, nil)
	begin(t, s)
	if s.Scan(math.MinInt, math.MaxInt) != nil || s.Pages() != nil {
		t.Error("a zero store tells a list")
	}
	c := s.Copy()
	if c == nil || !Same(s, c) {
		t.Error("a copy of a zero store isn't the same")
	}
	put(t, s, 5)
	has(t, s, pairsOf(5))
	has(t, c, nil)
}

func TestANilStore(t *testing.T) {
	var s *Store
	for _, k := range append(noKeys(), 0, 5, 999) {
		if e := s.Put(k, 1); e != api.ErrRange {
			t.Errorf("Put(%d): %d", k, e)
		}
		if v, e := s.Get(k); v != 0 || e != api.ErrRange {
			t.Errorf("Get(%d): %d, %d", k, v, e)
		}
		if e := s.Delete(k); e != api.ErrRange {
			t.Errorf("Delete(%d): %d", k, e)
		}
		if l := s.Scan(k, k); len(l) != 0 {
			t.Errorf("Scan(%d): %d", k, l)
		}
	}
	if len(s.Scan(0, last)) != 0 || len(s.Scan(math.MinInt, math.MaxInt)) != 0 || len(s.Pages()) != 0 || s.Len() != 0 {
		t.Error("a nil store has something")
	}
	if s.Copy() != nil {
		t.Error("a nil store's copy isn't nil")
	}
}

// P5.2: Scan, Len and Pages.

func TestScan(t *testing.T) {
	few := run(10, 90, 10)
	for _, c := range []struct {
		keys   []int
		lo, hi int
		want   []int
	}{
		{few, 10, 10, []int{10}}, {few, 50, 50, []int{50}}, {few, 90, 90, []int{90}}, {few, 40, 40, []int{40}}, {few, 45, 45, nil}, {few, 9, 9, nil}, {few, 91, 91, nil}, // one key
		{few, 0, 999, few}, {few, 10, 90, few}, {few, -5, 2000, few}, {few, math.MinInt, math.MaxInt, few}, {few, 9, 91, few}, // all
		{few, 11, 89, run(20, 80, 10)}, {few, 40, 50, []int{40, 50}}, {few, 41, 50, []int{50}}, {few, 40, 49, []int{40}}, {few, 41, 49, nil}, {few, 31, 60, []int{40, 50, 60}},
		{few, 11, 19, nil}, {few, 0, 9, nil}, {few, 91, 999, nil}, {few, 0, 10, []int{10}}, {few, 90, 999, []int{90}}, {few, 0, 0, nil}, {few, 999, 999, nil},
		{few, 50, 49, nil}, {few, 90, 10, nil}, {few, 999, 0, nil}, {few, math.MaxInt, math.MinInt, nil}, {few, 11, 10, nil}, {few, 50, 10, nil}, // lo above hi
		{few, -9, -1, nil}, {few, 1000, 2000, nil}, {few, math.MinInt, -1, nil}, {few, 1000, math.MaxInt, nil}, {few, math.MinInt, 15, []int{10}}, {few, 85, math.MaxInt, []int{90}}, // beyond the keys
		{[]int{0, 999}, 0, 0, []int{0}}, {[]int{0, 999}, 999, 999, []int{999}}, {[]int{0, 999}, -1, 1000, []int{0, 999}}, {[]int{0, 999}, 1, 998, nil}, {[]int{0, 999}, -1, -1, nil}, {[]int{0, 999}, 1000, 1000, nil},
		{nil, 0, 999, nil}, {nil, math.MinInt, math.MaxInt, nil}, {nil, 5, 5, nil},
		{run(0, 999, 1), 0, 999, run(0, 999, 1)}, {run(0, 999, 1), 123, 456, run(123, 456, 1)},
	} {
		if l := with(t, c.keys...).Scan(c.lo, c.hi); !slices.Equal(l, pairsOf(c.want...)) {
			t.Errorf("Scan(%d, %d) of %d: %d, not of %d", c.lo, c.hi, c.keys, l, c.want)
		}
	}
}

func TestScanOfAnyEnds(t *testing.T) {
	for _, ks := range [][]int{run(0, 60, 3), run(2, 33, 1), run(5, 40, 5)} {
		s := with(t, ks...)
		for lo := -2; lo <= 64; lo++ {
			for hi := -2; hi <= 64; hi++ {
				var want []int
				for _, k := range ks {
					if k >= lo && k <= hi {
						want = append(want, k)
					}
				}
				if l := s.Scan(lo, hi); !slices.Equal(l, pairsOf(want...)) {
					t.Errorf("Scan(%d, %d) of %d: %d", lo, hi, ks, l)
				}
			}
		}
	}
}

func TestLenAndPages(t *testing.T) {
	for n := range last + 2 {
		s := with(t, run(0, n-1, 1)...)
		if s.Len() != n {
			t.Errorf("Len of %d: %d", n, s.Len())
		}
		// Each page but the last one was split when it had 9, so that it has 4.
		if pages := max(1, (n-1)/4); n > 0 {
			begin(t, s, run(0, 4*pages-1, 4)...)
		} else {
			begin(t, s)
		}
	}
}

func TestThePairsAreYieldedUntilLeft(t *testing.T) {
	s := with(t, run(0, 20, 2)...)
	for _, c := range []struct {
		lo   int
		want []int
	}{{0, run(0, 20, 2)}, {-3, run(0, 20, 2)}, {7, run(8, 20, 2)}, {8, run(8, 20, 2)}, {20, []int{20}}, {21, nil}} {
		for n := range len(c.want) + 1 {
			var got []api.Pair
			for p := range s.from(c.lo) {
				if len(got) == n {
					break
				}
				got = append(got, p)
			}
			if !slices.Equal(got, pairsOf(c.want[:n]...)) {
				t.Errorf("the first %d from %d on: %d", n, c.lo, got)
			}
		}
	}
}

// P5.3: Copy, Same and Of.

func TestACopyIsTheSame(t *testing.T) {
	for _, ks := range [][]int{nil, {0}, {999}, run(0, 7, 1), run(0, 8, 1), run(0, 100, 3), run(0, 999, 1)} {
		s := with(t, ks...)
		c := s.Copy()
		if c == s {
			t.Error("a copy is the store itself")
		}
		begin(t, c, s.Pages()...)
		has(t, c, pairsOf(ks...))
		if !Same(s, c) || !Same(c, s) {
			t.Errorf("a copy of %d isn't the same", ks)
		}
	}
}

func TestACopyKeepsThePages(t *testing.T) {
	s := with(t, run(0, 15, 1)...)
	remove(t, s, 1, 2, 13, 14, 15)
	pages := s.Pages()
	again := Of(s.Scan(0, last))
	if slices.Equal(again.Pages(), pages) {
		t.Fatal("the test's pages are those of pairs put anew")
	}
	begin(t, s.Copy(), pages...)
	begin(t, s.Copy().Copy(), pages...)
}

// TestACopyGoesItsOwnWay does each change to a store, and then to its copy: the other one stays as it was.
func TestACopyGoesItsOwnWay(t *testing.T) {
	for _, ks := range [][]int{{10}, run(10, 40, 10), run(10, 80, 10), run(10, 90, 10), run(10, 130, 10), run(10, 400, 10)} {
		for i, change := range []func(s *Store){
			func(s *Store) { s.Put(10, -1) }, func(s *Store) { s.Put(ks[len(ks)-1], -1) }, func(s *Store) { s.Put(5, -1) }, func(s *Store) { s.Put(15, -1) }, func(s *Store) { s.Put(45, -1) }, func(s *Store) { s.Put(999, -1) },
			func(s *Store) { s.Delete(10) }, func(s *Store) { s.Delete(ks[len(ks)-1]) }, func(s *Store) { s.Delete(ks[len(ks)/2]) },
			func(s *Store) {
				for _, k := range ks {
					s.Delete(k)
				}
			},
			func(s *Store) {
				for k := range last + 1 {
					s.Put(k, -1)
				}
			},
			func(s *Store) {
				for k := last; k >= 0; k-- {
					s.Put(k, -1)
				}
			},
		} {
			s := with(t, ks...)
			c, pages := s.Copy(), s.Pages()
			for _, two := range [][2]*Store{{s, c}, {c.Copy(), c}, {c, c.Copy()}} {
				change(two[0])
				has(t, two[1], pairsOf(ks...))
				begin(t, two[1], pages...)
				if Same(two[0], two[1]) {
					t.Errorf("the change %d of %d is no change", i, ks)
				}
			}
		}
	}
}

// TestStoresAndCopiesAgainstModels goes on with stores and copies of them, side by side.
func TestStoresAndCopiesAgainstModels(t *testing.T) {
	rnd := rand.New(rand.NewSource(5))
	stores, models := []*Store{{}}, []model{nil}
	for n := range 6000 {
		i := rnd.Intn(len(stores))
		k, v := rnd.Intn(60)*17%1000, rnd.Int63()
		switch {
		case n%10 == 0 && len(stores) < 12:
			stores, models = append(stores, stores[i].Copy()), append(models, models[i])
		case n%10 == 0:
			to := rnd.Intn(len(stores))
			stores[to], models[to] = stores[i].Copy(), models[i]
		case rnd.Intn(9) < 4:
			if _, there := models[i].get(k); there {
				models[i] = models[i].remove(k)
			}
			stores[i].Delete(k)
		default:
			stores[i].Put(k, v)
			models[i] = models[i].put(k, v)
		}
		for i := range stores {
			check(t, stores[i], models[i])
		}
		if t.Failed() {
			t.Fatal("behind", n)
		}
	}
}

func TestSame(t *testing.T) {
	one := with(t, run(0, 15, 1)...)
	remove(t, one, 1, 2, 13, 14, 15)
	for _, c := range []struct {
		a, b *Store
		want bool
	}{
		{nil, nil, true}, {nil, &Store{}, true}, {&Store{}, &Store{}, true}, {Of(nil), nil, true}, {Of(nil), &Store{}, true},
		{nil, Of(pairsOf(0)), false}, {&Store{}, Of(pairsOf(999)), false}, {Of([]api.Pair{{}}), nil, false},
		{Of(pairsOf(0)), Of(pairsOf(0)), true}, {Of(pairsOf(0)), Of(pairsOf(1)), false}, {Of(pairsOf(999)), Of(pairsOf(999)), true}, {Of(pairsOf(999)), Of(pairsOf(998)), false},
		{Of([]api.Pair{{Key: 5, Value: 1}}), Of([]api.Pair{{Key: 5, Value: 2}}), false}, {Of([]api.Pair{{Key: 5, Value: 1}}), Of([]api.Pair{{Key: 6, Value: 1}}), false}, {Of([]api.Pair{{Key: 5, Value: 0}}), Of(nil), false},
		{Of(pairsOf(1, 2, 3)), Of(pairsOf(1, 2)), false}, {Of(pairsOf(1, 2, 3)), Of(pairsOf(2, 3)), false}, {Of(pairsOf(1, 2, 3)), Of(pairsOf(1, 3)), false}, {Of(pairsOf(1, 2, 3)), Of(pairsOf(3, 1, 2)), true},
		{one, Of(one.Scan(0, last)), true}, {one, one, true}, {one, one.Copy(), true}, {one, with(t, run(0, 15, 1)...), false}, // other pages
		{with(t, run(0, 999, 1)...), with(t, reversed(run(0, 999, 1))...), true}, {with(t, run(0, 999, 1)...), with(t, run(0, 998, 1)...), false}, {with(t, run(0, 999, 1)...), with(t, run(1, 999, 1)...), false},
	} {
		if Same(c.a, c.b) != c.want || Same(c.b, c.a) != c.want {
			t.Errorf("Same of %d and %d: %t, %t", c.a.Scan(0, last), c.b.Scan(0, last), Same(c.a, c.b), Same(c.b, c.a))
		}
	}
	if other := Of(one.Scan(0, last)); slices.Equal(one.Pages(), other.Pages()) {
		t.Error("the test's stores have the same pages:", one.Pages())
	}
}

func TestSameSeesEachPair(t *testing.T) {
	s := with(t, run(0, 999, 9)...)
	for k := range last + 1 {
		c := s.Copy()
		c.Put(k, -77)
		if Same(s, c) || Same(c, s) {
			t.Errorf("%d makes no difference", k)
		}
	}
}

// reversed tells numbers the other way round.
func reversed(l []int) []int {
	slices.Reverse(l)
	return l
}

func TestOf(t *testing.T) {
	for _, c := range []struct {
		l, want []api.Pair
		pages   []int
	}{
		{nil, nil, nil}, {[]api.Pair{}, nil, nil}, {[]api.Pair{{}}, []api.Pair{{}}, []int{0}},
		{pairsOf(3, 1, 2), pairsOf(1, 2, 3), []int{1}}, {pairsOf(999, 0), pairsOf(0, 999), []int{0}},
		{[]api.Pair{{Key: 5, Value: 1}, {Key: 5, Value: 2}}, []api.Pair{{Key: 5, Value: 2}}, []int{5}}, // one behind the other
		{[]api.Pair{{Key: 5, Value: 2}, {Key: 4, Value: 9}, {Key: 5, Value: 1}}, []api.Pair{{Key: 4, Value: 9}, {Key: 5, Value: 1}}, []int{4}},
		{pairsOf(run(0, 8, 1)...), pairsOf(run(0, 8, 1)...), []int{0, 4}}, {pairsOf(reversed(run(0, 13, 1))...), pairsOf(run(0, 13, 1)...), []int{0, 4, 9}}, {pairsOf(run(0, 12, 1)...), pairsOf(run(0, 12, 1)...), []int{0, 4, 8}},
		{pairsOf(noKeys()...), nil, nil}, {pairsOf(-1, 0, 1000, 999), pairsOf(0, 999), []int{0}}, {pairsOf(append(noKeys(), 7, -1, 3)...), pairsOf(3, 7), []int{3}}, // of no key
	} {
		s := Of(c.l)
		if s == nil {
			t.Fatalf("Of(%d) is nil", c.l)
		}
		has(t, s, c.want)
		begin(t, s, c.pages...)
	}
}

func TestOfPutsOneBehindTheOther(t *testing.T) {
	rnd := rand.New(rand.NewSource(6))
	for range 300 {
		l := make([]api.Pair, rnd.Intn(80))
		var m model
		for i := range l {
			l[i] = api.Pair{Key: rnd.Intn(60)*20 - 50, Value: rnd.Int63n(9)}
			if isKey(l[i].Key) {
				m = m.put(l[i].Key, l[i].Value)
			}
		}
		check(t, Of(l), m)
		if t.Failed() {
			t.Fatal("of", l)
		}
	}
}

// P5.4: each page has 1 to 8 pairs; what was put is got, until it is put anew, or taken out.

func TestAgainstTheModel(t *testing.T) {
	rnd := rand.New(rand.NewSource(7))
	for _, c := range []struct{ keys, by, steps int }{{10, 1, 3000}, {10, 111, 3000}, {30, 1, 6000}, {60, 16, 6000}, {1000, 1, 6000}} {
		for _, puts := range []int{3, 5, 7} { // of 10: as many take a key out as are left
			s, m := &Store{}, model(nil)
			for n := range c.steps {
				k, v := rnd.Intn(c.keys)*c.by, rnd.Int63()-rnd.Int63()
				// Now and then it goes the other way for long, so that it fills and empties.
				if (rnd.Intn(10) < puts) != (n/500%3 == 2) {
					if e := s.Put(k, v); e != api.OK {
						t.Errorf("Put(%d): %d", k, e)
					}
					m = m.put(k, v)
				} else {
					takeOut(t, s, &m, k)
				}
				begin(t, s, m.firsts()...)
				if n%50 == 0 {
					check(t, s, m)
					checkGet(t, s, m)
				}
				if t.Failed() {
					t.Fatal("behind", n, "of", c)
				}
			}
			check(t, s, m)
			checkGet(t, s, m)
		}
	}
}

// takeOut takes a key out of a store and of a model, and sees to it that the store tells whether it was there.
func takeOut(t *testing.T, s *Store, m *model, k int) {
	t.Helper()
	want := api.ErrNone
	if _, there := m.get(k); there {
		want, *m = api.OK, m.remove(k)
	}
	if e := s.Delete(k); e != want {
		t.Errorf("Delete(%d): %d, not %d", k, e, want)
	}
	getsNone(t, s, k)
}

// TestAllKeys puts all keys and takes them out again, rising, falling and in any order.
func TestAllKeys(t *testing.T) {
	rnd := rand.New(rand.NewSource(8))
	orders := [][]int{run(0, last, 1), reversed(run(0, last, 1)), rnd.Perm(last + 1), rnd.Perm(last + 1)}
	for _, in := range orders {
		for _, out := range orders {
			s, m := &Store{}, model(nil)
			for _, k := range in {
				put(t, s, k)
				m = m.put(k, valueOf(k))
			}
			check(t, s, m)
			checkGet(t, s, m)
			for n, k := range out {
				takeOut(t, s, &m, k)
				begin(t, s, m.firsts()...)
				if n%97 == 0 {
					check(t, s, m)
				}
			}
			has(t, s, nil)
			begin(t, s)
			if t.Failed() {
				t.FailNow()
			}
		}
	}
}

// TestAllWaysToTakeOut takes keys out of two and of three pages in all orders that there are of few of them.
func TestAllWaysToTakeOut(t *testing.T) {
	for _, n := range []int{9, 13} {
		var try func(s *Store, m model, left int)
		try = func(s *Store, m model, left int) {
			check(t, s, m)
			if left == 0 || t.Failed() {
				return
			}
			for _, p := range m.list() {
				c := s.Copy()
				remove(t, c, p.Key)
				try(c, m.remove(p.Key), left-1)
			}
		}
		var m model
		for k := range n {
			m = m.put(k, valueOf(k))
		}
		try(with(t, run(0, n-1, 1)...), m, 4)
	}
}

func TestTwoStoresToWhichTheSameWasDone(t *testing.T) {
	rnd := rand.New(rand.NewSource(9))
	a, b := &Store{}, Of(nil)
	for range 3000 {
		k, v := rnd.Intn(50), rnd.Int63()
		if rnd.Intn(2) == 0 {
			a.Put(k, v)
			b.Put(k, v)
		} else if x, y := a.Delete(k), b.Delete(k); x != y {
			t.Errorf("Delete(%d): %d and %d", k, x, y)
		}
		// What is told in between, and copies that are changed, are of no account.
		b.Scan(0, k)
		b.Copy().Put(k, 1)
		if !Same(a, b) || !slices.Equal(a.Pages(), b.Pages()) {
			t.Fatal("they differ:", a.Pages(), b.Pages())
		}
	}
}

// The rules that hold everywhere.

func TestWhatIsHandedInIsLeftAsItWas(t *testing.T) {
	for _, ks := range [][]int{{3, 1, 2}, reversed(run(0, 30, 1)), {5, -1, 5, 1000, 4}, noKeys()} {
		room := pairsOf(append(slices.Clone(ks), 77, 3, 0, -9)...)
		was := slices.Clone(room)
		s := Of(room[:len(ks)])
		for k := range 40 {
			s.Put(k, -1)
			s.Delete(k / 2)
		}
		if !slices.Equal(room, was) {
			t.Errorf("what was handed in was changed: %d, not %d", room, was)
		}
	}
}

func TestWhatWasHandedInIsNotKept(t *testing.T) {
	for _, n := range []int{1, 8, 9, 100} {
		l := pairsOf(run(0, n-1, 1)...)
		s := Of(l)
		clear(l)
		has(t, s, pairsOf(run(0, n-1, 1)...))
	}
}

func TestAnswersAreNewMemory(t *testing.T) {
	for _, n := range []int{1, 4, 8, 9, 100} {
		s := with(t, run(0, n-1, 1)...)
		pages := s.Pages()
		for _, ends := range [][2]int{{0, last}, {0, 0}, {0, 3}, {4, 8}} {
			first, second := s.Scan(ends[0], ends[1]), s.Scan(ends[0], ends[1])
			want := slices.Clone(second)
			spoil(first, api.Pair{Key: 5, Value: -5})
			if !slices.Equal(second, want) || !slices.Equal(s.Scan(ends[0], ends[1]), want) {
				t.Errorf("Scan(%d) shares memory", ends)
			}
		}
		first, second := s.Pages(), s.Pages()
		spoil(first, -5)
		if !slices.Equal(second, pages) {
			t.Error("Pages shares memory")
		}
		has(t, s, pairsOf(run(0, n-1, 1)...))
		begin(t, s, pages...)
	}
}

// spoil writes over a list, its spare room too.
func spoil[E any](l []E, with E) {
	all := l[:cap(l)]
	for i := range all {
		all[i] = with
	}
}

func TestWhatWasToldStays(t *testing.T) {
	s := with(t, run(0, 99, 1)...)
	l, pages := s.Scan(0, last), s.Pages()
	wasL, wasPages := slices.Clone(l), slices.Clone(pages)
	for k := range last + 1 {
		s.Put(k, -1)
		if k%3 == 0 {
			s.Delete(k)
		}
	}
	if !slices.Equal(l, wasL) || !slices.Equal(pages, wasPages) {
		t.Error("what was told was changed:", l, pages)
	}
}
