package cat

import (
	"fmt"
	"math"
	"math/rand"
	"slices"
	"strings"
	"testing"

	"gimmal/api"
	"gimmal/class"
	"gimmal/codes"
)

// The model: what the document's words say, done plainly, class by class, bit by bit and word by word.

// hasBit tells whether a number has a bit.
func hasBit(b, i int) bool { return i >= 0 && i < 64 && uint64(b)>>i%2 == 1 }

// pointAt tells whether there is a breakpoint of c to d behind the step i.
func pointAt(x api.Catalogue, c, d, i int) bool {
	n := min(len(x.Classes), 4)
	if c < 0 || c >= n || d < 0 || d >= n {
		return false
	}
	last := len(x.Classes[c].Steps) - 1
	return i >= 0 && i < last && hasBit(x.Breaks[c][d], i)
}

// eachBit goes through all the bits that Breaks have, those that mean nothing among them.
func eachBit(try func(c, d, i int)) {
	for c := range 4 {
		for d := range 4 {
			for i := range 64 {
				try(c, d, i)
			}
		}
	}
}

// mayBe tells whether a catalogue may be.
func mayBe(x api.Catalogue) bool {
	so := len(x.Classes) >= 1 && len(x.Classes) <= 4
	for i, a := range x.Classes {
		so = so && class.May(a)
		for _, b := range x.Classes[:i] {
			so = so && a.Name != b.Name
		}
	}
	eachBit(func(c, d, i int) { so = so && (!hasBit(x.Breaks[c][d], i) || pointAt(x, c, d, i)) })
	return so
}

// counted tells how many breakpoints a catalogue has.
func counted(x api.Catalogue) int {
	n := 0
	eachBit(func(c, d, i int) {
		if pointAt(x, c, d, i) {
			n++
		}
	})
	return n
}

// opened tells a catalogue with each breakpoint that there may be.
func opened(x api.Catalogue) api.Catalogue {
	full := api.Catalogue{Classes: x.Classes}
	for c := range full.Breaks {
		for d := range full.Breaks[c] {
			full.Breaks[c][d] = -1
		}
	}
	y := api.Catalogue{Classes: x.Classes}
	eachBit(func(c, d, i int) {
		if pointAt(full, c, d, i) {
			y.Breaks[c][d] |= 1 << i
		}
	})
	return y
}

// closed tells a catalogue without a breakpoint.
func closed(x api.Catalogue) api.Catalogue { return api.Catalogue{Classes: x.Classes} }

// classWords tells a class' words.
func classWords(c api.Class) []uint64 {
	var w codes.Writer
	class.Put(&w, c)
	return w.Done()
}

// wordsOf tells a catalogue's words.
func wordsOf(x api.Catalogue) []uint64 {
	n := len(x.Classes)
	all := []uint64{uint64(n)}
	for _, c := range x.Classes {
		all = append(all, classWords(c)...)
	}
	for c := 0; c < n && c < 4; c++ {
		for d := 0; d < n && d < 4; d++ {
			all = append(all, uint64(max(x.Breaks[c][d], 0)))
		}
	}
	return all
}

// catalogueOf tells the catalogue that stands at the beginning of words, how many words it takes, and whether there is one that may be.
func catalogueOf(l []uint64) (api.Catalogue, int, bool) {
	var x api.Catalogue
	if len(l) == 0 || l[0] > 4 {
		return api.Catalogue{}, 0, false
	}
	rest := l[1:]
	for range l[0] {
		c, ok := class.Get(codes.NewReader(rest))
		if !ok {
			return api.Catalogue{}, 0, false
		}
		x.Classes = append(x.Classes, c)
		rest = rest[len(classWords(c)):]
	}
	for c := range x.Classes {
		for d := range x.Classes {
			if len(rest) == 0 || rest[0] > math.MaxInt {
				return api.Catalogue{}, 0, false
			}
			x.Breaks[c][d] = int(rest[0])
			rest = rest[1:]
		}
	}
	if !mayBe(x) {
		return api.Catalogue{}, 0, false
	}
	return x, len(l) - len(rest), true
}

// whole tells all that a catalogue has; nil and empty are one and the same in it.
func whole(x api.Catalogue) string {
	var all []string
	for _, c := range x.Classes {
		all = append(all, fmt.Sprintf("%+q %d %v %v %t", c.Name, c.Args, c.Steps, c.Comps, c.Resume))
	}
	return fmt.Sprint(strings.Join(all, "; "), x.Breaks)
}

// What is tried.

// far has numbers at the ends of what there is.
var far = []int{math.MinInt, math.MinInt + 1, -1 << 32, -1 << 31, 1 << 31, 1<<32 - 1, 1 << 32, 1<<32 + 1, math.MaxInt - 1, math.MaxInt}

// set tells an instruction that may be for any number of arguments.
func set(n int64) api.Instr { return api.Instr{Op: api.OpSet, A: 1, X: n} }

// named tells a class of a name with so many steps; it may be, if there are 1 to 4 of them.
func named(name string, steps int) api.Class {
	c := api.Class{Name: name}
	for i := range steps {
		c.Steps = append(c.Steps, api.Step{Code: []api.Instr{set(int64(i))}})
		c.Comps = append(c.Comps, api.Step{})
	}
	return c
}

// of tells a catalogue of classes without a breakpoint.
func of(classes ...api.Class) api.Catalogue { return api.Catalogue{Classes: classes} }

// steps tells a catalogue of classes with so many steps each, of names of their own, without a breakpoint.
func steps(l ...int) api.Catalogue {
	var x api.Catalogue
	for i, n := range l {
		x.Classes = append(x.Classes, named(fmt.Sprint("class ", i), n))
	}
	return x
}

// broken tells a catalogue with rows of Breaks; those that aren't told are as they are.
func broken(x api.Catalogue, rows ...[4]int) api.Catalogue {
	for i, row := range rows {
		x.Breaks[i] = row
	}
	return x
}

// rich tells a class of three steps and two arguments, which has something of each sort.
func rich(name string) api.Class {
	k, l := api.KeyT{Arg: 1, Base: 5}, api.KeyT{Arg: -1, Base: 900}
	one := []api.SpanT{{Lo: k, Hi: k, Write: true}, {Lo: k, Hi: l}}
	return api.Class{
		Name: name, Args: 2, Resume: true,
		Steps: []api.Step{
			{Code: []api.Instr{{Op: api.OpGet, A: 1, K: k}, {Op: api.OpGuard, A: 2, X: 4}}, Foot: one[:1]},
			{Code: []api.Instr{{Op: api.OpScan, A: 3, K: k, L: l}, {Op: api.OpAdd, A: 1, B: 2, C: 3}, set(-7)}, Foot: slices.Clone(one)},
			{Code: []api.Instr{{Op: api.OpPut, A: 2, K: l}}},
		},
		Comps: []api.Step{
			{Foot: []api.SpanT{{Lo: l, Hi: l}}},
			{Code: []api.Instr{{Op: api.OpDelete, K: k}, set(8)}, Foot: slices.Clone(one)},
			{},
		},
	}
}

// shop tells a catalogue of four classes, of 3, 1, 4 and 2 steps, whose Breaks all differ from those the other way round.
func shop() api.Catalogue {
	x := of(rich("buy"), named("look", 1), named("pay", 4), named("send", 2))
	x.Breaks = [4][4]int{{3, 1, 2, 0}, {}, {7, 5, 6, 4}, {1, 1, 0, 1}}
	return x
}

// changed tells shop with a change.
func changed(change func(x *api.Catalogue)) api.Catalogue {
	x := shop()
	change(&x)
	return x
}

// notClasses tells classes that may not be, all of one name, of which each part can be read, but of the last two.
func notClasses(name string) []api.Class {
	turn := func(change func(c *api.Class)) api.Class {
		c := rich(name)
		change(&c)
		return c
	}
	return []api.Class{
		named(name, 0),
		turn(func(c *api.Class) { c.Args = 1 }),
		turn(func(c *api.Class) { c.Steps[2].Code = nil }),
		turn(func(c *api.Class) { c.Steps[0].Code[0].A = 4 }),
		turn(func(c *api.Class) { c.Steps[0].Foot[0].Hi.Base = 901 }),
		turn(func(c *api.Class) { c.Comps[2].Code = []api.Instr{{Op: api.OpGuard}} }),
		turn(func(c *api.Class) { c.Args = 4 }),
		turn(func(c *api.Class) { c.Comps = c.Comps[:2] }),
	}
}

// randomOf tells one of some things.
func randomOf[T any](rnd *rand.Rand, l ...T) T { return l[rnd.Intn(len(l))] }

// good tells any catalogue that may be.
func good(rnd *rand.Rand) api.Catalogue {
	var x api.Catalogue
	for i := range 1 + rnd.Intn(4) {
		name := make([]byte, 1+rnd.Intn(16))
		rnd.Read(name)
		name[0] = byte(i + 4*rnd.Intn(60))
		c := randomOf(rnd, named, named, func(name string, _ int) api.Class { return rich(name) })(string(name), 1+rnd.Intn(4))
		x.Classes = append(x.Classes, c)
	}
	full := opened(x)
	for c := range x.Breaks {
		for d := range x.Breaks[c] {
			x.Breaks[c][d] = full.Breaks[c][d] & randomOf(rnd, 0, -1, int(rnd.Uint64()), int(rnd.Uint64()))
		}
	}
	return x
}

// turned tells any catalogue, near those that may be: of some of them one thing is changed.
func turned(rnd *rand.Rand) api.Catalogue {
	x := good(rnd)
	c := &x.Classes[rnd.Intn(len(x.Classes))]
	b := &x.Breaks[rnd.Intn(4)][rnd.Intn(4)]
	switch rnd.Intn(16) {
	case 0:
		*b = int(rnd.Uint64() >> rnd.Intn(64))
	case 1, 2:
		*b |= 1 << randomOf(rnd, 0, 1, 2, 3, 4, 62, 63, rnd.Intn(64))
	case 3:
		*b = rnd.Intn(10)
	case 4:
		c.Name = randomOf(rnd, "", "a", x.Classes[0].Name, x.Classes[len(x.Classes)-1].Name, strings.Repeat("b", 17))
	case 5:
		*c = randomOf(rnd, notClasses(c.Name)...)
	case 6:
		*c = named(c.Name, rnd.Intn(6))
	case 7:
		for range 5 {
			x.Classes = append(x.Classes, named(fmt.Sprint("more ", rnd.Intn(30)), 1+rnd.Intn(4)))
		}
		x.Classes = x.Classes[:randomOf(rnd, 2, 3, 4, 5, 5, 6)]
	case 8:
		x.Classes = x.Classes[:rnd.Intn(len(x.Classes))]
	}
	return x
}

// balance counts how often something was so, and how often not.
type balance [2]int

// add counts one.
func (b *balance) add(so bool) {
	if so {
		b[1]++
	} else {
		b[0]++
	}
}

// held sees to it that both came about often enough.
func (b *balance) held(t *testing.T, least int) {
	t.Helper()
	if min(b[0], b[1]) < least {
		t.Error("what is tried is of one sort:", *b)
	}
}

// P12.1: May.

// may sees to it that a catalogue may be, or may not, as the model says too.
func may(t *testing.T, x api.Catalogue, want bool) {
	t.Helper()
	if mayBe(x) != want {
		t.Fatalf("the model of %s", whole(x))
	}
	if May(x) != want {
		t.Errorf("May(%s): %t", whole(x), !want)
	}
}

func TestMay(t *testing.T) {
	may(t, shop(), true)
	may(t, api.Catalogue{}, false)
	may(t, api.Catalogue{Classes: []api.Class{}}, false)
	may(t, of(api.Class{}), false)
	may(t, of(named("a", 1)), true)
	may(t, of(rich("a")), true)
}

func TestMayOfHowMany(t *testing.T) {
	for n := range 30 {
		for _, each := range []int{1, 2, 4} {
			may(t, steps(slices.Repeat([]int{each}, n)...), n >= 1 && n <= 4)
		}
	}
	may(t, steps(slices.Repeat([]int{1}, 256)...), false)
	may(t, steps(slices.Repeat([]int{1}, 257)...), false)
}

// TestMayOfClasses: one that may not be, at each place.
func TestMayOfClasses(t *testing.T) {
	for n := 1; n <= 4; n++ {
		for i := range n {
			for _, c := range notClasses("bad") {
				x := steps(slices.Repeat([]int{2}, n)...)
				may(t, x, true)
				x.Classes[i] = c
				may(t, x, false)
			}
			for _, name := range []string{"", strings.Repeat("x", 17)} {
				x := steps(slices.Repeat([]int{2}, n)...)
				x.Classes[i].Name = name
				may(t, x, false)
			}
		}
	}
}

// TestMayOfNames: two of one Name, side by side and apart, whatever else they have.
func TestMayOfNames(t *testing.T) {
	for n := 2; n <= 4; n++ {
		for i := range n {
			for k := range n {
				x := steps(slices.Repeat([]int{2}, n)...)
				x.Classes[i].Name = x.Classes[k].Name
				may(t, x, i == k)
				x.Classes[i] = rich(x.Classes[k].Name)
				may(t, x, i == k)
				x.Classes[i].Name += "x"
				may(t, x, true)
			}
		}
	}
	may(t, of(named("a", 1), named("a", 1), named("a", 1), named("a", 1)), false)
	may(t, of(named("a", 1), named("b", 1), named("b", 1), named("a", 1)), false)
}

// TestMayOfNamesThatDifferABit: in the last byte, in the first one, in how long they are, and in what looks alike.
func TestMayOfNamesThatDifferABit(t *testing.T) {
	long := strings.Repeat("x", 15)
	for _, l := range [][2]string{{long + "a", long + "b"}, {"a" + long, "b" + long}, {long, long + "x"}, {long, long + "\x00"}, {"a", "a "}, {" a", "a"}, {"a", "A"}, {"\x00", "\x00\x00"}, {"\xff", "\xfe"}, {"\u00e9", "e\u0301"}, {"12345678a", "12345678b"}, {"12345678", "12345679"}} {
		for n := 2; n <= 4; n++ {
			x := steps(slices.Repeat([]int{2}, n)...)
			x.Classes[0].Name, x.Classes[n-1].Name = l[0], l[1]
			may(t, x, true)
			x.Classes[0].Name = l[1]
			may(t, x, false)
		}
	}
}

// TestMayOfBreaksOfClassesThatAreNotThere: in their row, and in their column.
func TestMayOfBreaksOfClassesThatAreNotThere(t *testing.T) {
	for n := 1; n <= 4; n++ {
		for c := range 4 {
			for d := range 4 {
				for _, b := range append([]int{1, 2, 4, 7, 8, -1}, far...) {
					x := steps(slices.Repeat([]int{4}, n)...)
					may(t, x, true)
					x.Breaks[c][d] = b
					may(t, x, c < n && d < n && b > 0 && b <= 7)
				}
			}
		}
	}
	may(t, broken(api.Catalogue{}, [4]int{1}), false)
}

// TestMayOfEachBit: of classes of 1 to 4 steps, to each class.
func TestMayOfEachBit(t *testing.T) {
	for c, n := range []int{3, 1, 4, 2} {
		for d := range 4 {
			for i := range 64 {
				x := changed(func(x *api.Catalogue) { x.Breaks[c][d] |= 1 << i })
				may(t, x, i < n-1)
				may(t, changed(func(x *api.Catalogue) { x.Breaks[c][d] = 1 << i }), i < n-1)
			}
			for _, b := range []int{0, 1<<(n-1) - 1} {
				may(t, changed(func(x *api.Catalogue) { x.Breaks[c][d] = b }), true)
			}
			for _, b := range append([]int{1 << (n - 1), 1<<n - 1, -1, -2, -8}, far...) {
				may(t, changed(func(x *api.Catalogue) { x.Breaks[c][d] = b }), false)
			}
		}
	}
}

// TestMayOfBreaksToFewerSteps: what may be hangs on the steps of the first class, not on those of the second one.
func TestMayOfBreaksToFewerSteps(t *testing.T) {
	may(t, broken(steps(4, 2), [4]int{7, 7}, [4]int{1, 1}), true)
	may(t, broken(steps(4, 2), [4]int{0, 4}), true)
	may(t, broken(steps(4, 2), [4]int{}, [4]int{4, 0}), false)
	may(t, broken(steps(2, 4), [4]int{0, 4}), false)
	may(t, broken(steps(2, 4), [4]int{}, [4]int{4, 0}), true)
	may(t, broken(steps(1, 4), [4]int{0, 1}), false)
	may(t, broken(steps(4, 1), [4]int{0, 1}), true)
}

func TestMayOfAny(t *testing.T) {
	rnd := rand.New(rand.NewSource(1))
	var b balance
	for range 20000 {
		may(t, good(rnd), true)
		x := turned(rnd)
		may(t, x, mayBe(x))
		b.add(mayBe(x))
	}
	b.held(t, 3000)
}

// P12.1: Put.

// put tells what Put writes of a catalogue.
func put(x api.Catalogue) []uint64 {
	var w codes.Writer
	Put(&w, x)
	return w.Done()
}

// puts sees to it that a catalogue has these words, as the model says too.
func puts(t *testing.T, x api.Catalogue, want ...uint64) {
	t.Helper()
	if l := put(x); !slices.Equal(l, want) || !slices.Equal(wordsOf(x), want) {
		t.Errorf("Put(%s): %d, not %d (the model: %d)", whole(x), l, want, wordsOf(x))
	}
}

// TestPutInNumbers holds words against such as were worked out by hand.
func TestPutInNumbers(t *testing.T) {
	puts(t, api.Catalogue{}, 0)
	puts(t, broken(api.Catalogue{}, [4]int{5, 6}), 0)
	puts(t, of(api.Class{}), 1, 0, 0, 0, 0, 0)
	one := []uint64{1, 1, 5, 1, 0, 0, 0, 0, 0, 0, 0, 0, 0, 0}
	a := slices.Concat([]uint64{1, 97, 0}, one, []uint64{0})
	b := slices.Concat([]uint64{1, 98, 0}, one, []uint64{0})
	puts(t, of(named("a", 1)), slices.Concat([]uint64{1}, a, []uint64{0})...)
	puts(t, broken(of(named("a", 1), named("b", 1)), [4]int{5, 6, 7, 8}, [4]int{9, 10, 11, 12}, [4]int{13}), slices.Concat([]uint64{2}, a, b, []uint64{5, 6, 9, 10})...)
	puts(t, broken(of(named("b", 1), named("a", 1)), [4]int{-5, math.MaxInt}, [4]int{math.MinInt, -1}), slices.Concat([]uint64{2}, b, a, []uint64{0, math.MaxInt, 0, 0})...)
	if l := put(shop()); !slices.Equal(l[len(l)-16:], []uint64{3, 1, 2, 0, 0, 0, 0, 0, 7, 5, 6, 4, 1, 1, 0, 1}) || l[0] != 4 {
		t.Errorf("the words of four classes: %d", l)
	}
}

// TestPutOfMoreClassesThanMayBe: Breaks of the first four are all that there are.
func TestPutOfMoreClassesThanMayBe(t *testing.T) {
	for n := 5; n < 9; n++ {
		x := steps(slices.Repeat([]int{2}, n)...)
		x.Breaks = shop().Breaks
		want := []uint64{uint64(n)}
		for _, c := range x.Classes {
			want = append(want, classWords(c)...)
		}
		puts(t, x, append(want, 3, 1, 2, 0, 0, 0, 0, 0, 7, 5, 6, 4, 1, 1, 0, 1)...)
	}
}

// TestPutOfAny: of catalogues that may not be, too, it writes what a Writer's calls do.
func TestPutOfAny(t *testing.T) {
	rnd := rand.New(rand.NewSource(2))
	for range 10000 {
		x := turned(rnd)
		if l := put(x); !slices.Equal(l, wordsOf(x)) {
			t.Fatalf("Put(%s): %d, not %d", whole(x), l, wordsOf(x))
		}
	}
}

func TestPutWritesBehind(t *testing.T) {
	var w codes.Writer
	w.Count(5)
	Put(&w, shop())
	w.Flag(true)
	Put(&w, steps(2))
	want := slices.Concat([]uint64{5}, wordsOf(shop()), []uint64{1}, wordsOf(steps(2)))
	if l := w.Done(); !slices.Equal(l, want) {
		t.Errorf("%d, not %d", l, want)
	}
}

func TestPutOfNoWriter(t *testing.T) {
	Put(nil, api.Catalogue{})
	Put(nil, shop())
}

// P12.1: Get.

// reads sees to it that a catalogue is read from words, and that those behind it are left.
func reads(t *testing.T, words []uint64, want api.Catalogue, behind int) {
	t.Helper()
	r := codes.NewReader(words)
	if x, ok := Get(r); !ok || whole(x) != whole(want) || !r.Ok() || r.End() != (behind == 0) {
		t.Errorf("Get of %d: %s, %t, %t, not %s", words, whole(x), ok, r.Ok(), whole(want))
	}
	for _, left := range words[len(words)-behind:] {
		var w codes.Writer
		w.Signed(r.Signed())
		if l := w.Done(); l[0] != left || !r.Ok() {
			t.Errorf("behind a catalogue of %d: %d, not %d", words, l, left)
		}
	}
	if !r.End() {
		t.Errorf("something is left of %d", words)
	}
}

// noneOf sees to it that a reader tells no catalogue, again and again, and isn't right from then on.
func noneOf(t *testing.T, name string, r *codes.Reader) {
	t.Helper()
	for range 2 {
		if x, ok := Get(r); ok || whole(x) != whole(api.Catalogue{}) || r.Ok() || r.End() {
			t.Errorf("Get of %s: %s, %t, %t", name, whole(x), ok, r.Ok())
		}
	}
	if r.Signed() != 0 || r.Count(9) != 0 || r.Ok() {
		t.Errorf("a reader behind %s is right", name)
	}
}

// readsAs sees to it that of words a catalogue is read, or none, as the model says.
func readsAs(t *testing.T, words []uint64) bool {
	t.Helper()
	x, takes, ok := catalogueOf(words)
	if ok {
		reads(t, words, x, len(words)-takes)
	} else {
		noneOf(t, fmt.Sprint(words), codes.NewReader(words))
	}
	return ok
}

func TestGet(t *testing.T) {
	for _, x := range []api.Catalogue{shop(), steps(1), steps(4), broken(steps(4), [4]int{5}), steps(1, 1, 1, 1), broken(steps(2, 3), [4]int{1, 0}, [4]int{2, 3})} {
		reads(t, wordsOf(x), x, 0)
		reads(t, append(wordsOf(x), 1), x, 1)
		reads(t, append(wordsOf(x), math.MaxUint64, 0, 7), x, 3)
	}
	for _, words := range [][]uint64{nil, {}, {0}, {1}, {0, 0}, {0, 0, 0, 0, 0, 0, 0, 0}} {
		if readsAs(t, words) {
			t.Errorf("something is read from %d", words)
		}
	}
}

// TestGetOfHowMany: as many classes as are told, which all stand there.
func TestGetOfHowMany(t *testing.T) {
	for n := range 8 {
		x := steps(slices.Repeat([]int{1}, n)...)
		if readsAs(t, wordsOf(x)) != (n >= 1 && n <= 4) {
			t.Errorf("of %d classes", n)
		}
		// The words of more classes, and of more Breaks, stand there than are told.
		words := append(wordsOf(x), make([]uint64, 25)...)
		for _, told := range []uint64{0, 5, 6, 255, 256, 257, 1 << 32, 1<<32 + 1, 1 << 63, 1<<63 + 1, math.MaxUint64} {
			words[0] = told
			noneOf(t, fmt.Sprint(words), codes.NewReader(words))
		}
	}
}

// TestGetOfBreaks: each of them, at the greatest number that may be, and beyond it.
func TestGetOfBreaks(t *testing.T) {
	for _, l := range [][]int{{1}, {2}, {3}, {4}, {1, 2}, {2, 1}, {4, 3, 2}, {3, 1, 4, 2}, {4, 4, 4, 4}} {
		x := steps(l...)
		n := len(l)
		for at := range n * n {
			most := uint64(1)<<(l[at/n]-1) - 1
			for _, w := range []uint64{0, 1, most / 2, most, most + 1, 2*most + 1, 8, 9, 1 << 31, 1 << 32, 1<<32 + 1, 1<<63 - 1, 1 << 63, 1<<63 + 1, math.MaxUint64} {
				words := wordsOf(x)
				words[len(words)-n*n+at] = w
				if readsAs(t, words) != (w <= most) {
					t.Errorf("of %d at %d of classes of %d steps", w, at, l)
				}
			}
		}
	}
}

// TestGetOfCataloguesThatMayNotBe: each part of them can be read.
func TestGetOfCataloguesThatMayNotBe(t *testing.T) {
	for i, change := range []func(x *api.Catalogue){
		func(x *api.Catalogue) { x.Classes = nil },
		func(x *api.Catalogue) { x.Classes = append(x.Classes, named("more", 1)) },
		func(x *api.Catalogue) { x.Classes[1].Name = "buy" },
		func(x *api.Catalogue) { x.Classes[3].Name = "buy" },
		func(x *api.Catalogue) { x.Classes[3].Name = "pay" },
		func(x *api.Catalogue) { x.Classes[1] = x.Classes[0] },
		func(x *api.Catalogue) { x.Breaks[0][0] = 4 },
		func(x *api.Catalogue) { x.Breaks[1][2] = 1 },
		func(x *api.Catalogue) { x.Breaks[2][3] = 8 },
		func(x *api.Catalogue) { x.Breaks[3][3] = 2 },
		func(x *api.Catalogue) { x.Breaks[3][0] = math.MaxInt },
	} {
		x := changed(change)
		may(t, x, false)
		if readsAs(t, wordsOf(x)) {
			t.Errorf("the catalogue %d is read: %s", i, whole(x))
		}
	}
	for i := range 4 {
		for _, c := range notClasses("bad")[:6] {
			x := changed(func(x *api.Catalogue) { x.Classes[i] = c; x.Breaks = breaks{} })
			if readsAs(t, wordsOf(x)) {
				t.Errorf("with a class that may not be: %s", whole(x))
			}
		}
	}
}

// TestGetOfEachWord tries each word at its edges, all others as they may be.
func TestGetOfEachWord(t *testing.T) {
	tried := []uint64{0, 1, 2, 3, 4, 5, 7, 8, 9, 255, 256, 900, 901, 1 << 32, 1<<32 + 1, 1 << 63, math.MaxUint64}
	var b balance
	for at := range wordsOf(shop()) {
		for _, w := range tried {
			words := wordsOf(shop())
			words[at] = w
			b.add(readsAs(t, words))
		}
	}
	b.held(t, 200)
}

func TestGetOfWordsThatEndTooEarly(t *testing.T) {
	for _, x := range []api.Catalogue{shop(), Open(shop()), steps(1), steps(2, 2)} {
		words := wordsOf(x)
		for end := range words {
			noneOf(t, fmt.Sprint(words[:end]), codes.NewReader(words[:end]))
		}
	}
}

func TestGetOfSomeOneBehindTheOther(t *testing.T) {
	all := []api.Catalogue{shop(), steps(1), shop(), broken(steps(4, 4), [4]int{0, 7})}
	l := []uint64{7}
	for _, x := range all {
		l = append(l, wordsOf(x)...)
	}
	r := codes.NewReader(append(l, 1))
	if n := r.Count(9); n != 7 {
		t.Fatal(n)
	}
	for i, want := range all {
		if x, ok := Get(r); !ok || whole(x) != whole(want) || !r.Ok() || r.End() {
			t.Errorf("the catalogue %d: %s, %t", i, whole(x), ok)
		}
	}
	if !r.Flag() || !r.End() {
		t.Error("the flag behind")
	}
}

func TestGetOfAReaderThatIsNotRight(t *testing.T) {
	for name, spoil := range map[string]func(r *codes.Reader){
		"a flag":      func(r *codes.Reader) { r.Flag() },
		"a count":     func(r *codes.Reader) { r.Count(1) },
		"words":       func(r *codes.Reader) { r.Words(1) },
		"a class":     func(r *codes.Reader) { class.Get(r) },
		"a catalogue": func(r *codes.Reader) { Get(r) },
	} {
		r := codes.NewReader(append([]uint64{2}, wordsOf(shop())...))
		spoil(r)
		if r.Ok() {
			t.Fatal("it is right behind", name)
		}
		noneOf(t, name, r)
	}
}

func TestGetOfNoReader(t *testing.T) {
	if x, ok := Get(nil); ok || whole(x) != whole(api.Catalogue{}) {
		t.Errorf("of nil: %s, %t", whole(x), ok)
	}
	noneOf(t, "a zero value", &codes.Reader{})
}

// TestGetOfAny holds Get of words that were spoilt somewhere, or cut, or lengthened, against the model.
func TestGetOfAny(t *testing.T) {
	rnd := rand.New(rand.NewSource(3))
	var b balance
	for range 10000 {
		words := wordsOf(randomOf(rnd, good, turned)(rnd))
		if rnd.Intn(3) == 0 {
			words[rnd.Intn(len(words))] = rnd.Uint64() >> randomOf(rnd, rnd.Intn(64), 60, 62)
		}
		if rnd.Intn(8) == 0 {
			words = words[:rnd.Intn(len(words)+1)]
		}
		for range rnd.Intn(3) {
			words = append(words, rnd.Uint64())
		}
		b.add(readsAs(t, words))
	}
	b.held(t, 1500)
}

// P12.2: Find.

// finds sees to it that a class of a name is found there.
func finds(t *testing.T, x api.Catalogue, name string, want int) {
	t.Helper()
	if i := Find(x, name); i != want {
		t.Errorf("Find(%s, %q): %d, not %d", whole(x), name, i, want)
	}
}

func TestFind(t *testing.T) {
	for i, name := range []string{"buy", "look", "pay", "send"} {
		finds(t, shop(), name, i)
		finds(t, Open(shop()), name, i)
	}
	for _, name := range []string{"", "b", "bu", "buyy", "buy ", " buy", "buy\x00", "Buy", "uy", "buylook", "sen", "sene"} {
		finds(t, shop(), name, -1)
	}
	for _, name := range []string{"", "a"} {
		finds(t, api.Catalogue{}, name, -1)
		finds(t, of(named("b", 1)), name, -1)
	}
}

// TestFindOfNamesThatAreThereTwice: in catalogues that may not be.
func TestFindOfNamesThatAreThereTwice(t *testing.T) {
	x := of(named("c", 1), named("a", 1), named("b", 2), named("a", 3), named("b", 1), named("a", 1), named("d", 1))
	for name, i := range map[string]int{"c": 0, "a": 1, "b": 2, "d": 6, "e": -1, "": -1} {
		finds(t, x, name, i)
	}
	finds(t, of(named("a", 1), named("a", 1)), "a", 0)
	finds(t, of(named("b", 1), named("a", 1), named("a", 1)), "a", 1)
}

// TestFindOfNoName: as any other one.
func TestFindOfNoName(t *testing.T) {
	finds(t, of(named("a", 1), named("", 1), named("", 1)), "", 1)
	finds(t, of(api.Class{}), "", 0)
	finds(t, of(api.Class{}), "a", -1)
}

func TestFindOfAny(t *testing.T) {
	rnd := rand.New(rand.NewSource(4))
	for range 5000 {
		x := turned(rnd)
		for _, c := range append(x.Classes, named("a", 1), named("", 1)) {
			want := -1
			for i := len(x.Classes) - 1; i >= 0; i-- {
				if x.Classes[i].Name == c.Name {
					want = i
				}
			}
			finds(t, x, c.Name, want)
		}
	}
}

// P12.2: Break.

// at sees to it that there is a breakpoint, or none, as the model says too.
func at(t *testing.T, x api.Catalogue, c, d, i int, want bool) {
	t.Helper()
	if pointAt(x, c, d, i) != want {
		t.Fatalf("the model of %s, %d, %d, %d", whole(x), c, d, i)
	}
	if Break(x, c, d, i) != want {
		t.Errorf("Break(%s, %d, %d, %d): %t", whole(x), c, d, i, !want)
	}
}

// asTold holds each Break of a catalogue against the model, at its edges and beyond them.
func asTold(t *testing.T, x api.Catalogue) {
	t.Helper()
	places := append([]int{-2, -1, 0, 1, 2, 3, 4, 5}, far[0], far[len(far)-1])
	for _, c := range places {
		for _, d := range places {
			for _, i := range append(places, 6, 30, 31, 32, 61, 62, 63, 64, 65, 98, 99, 127, 128) {
				at(t, x, c, d, i, pointAt(x, c, d, i))
			}
		}
	}
}

func TestBreak(t *testing.T) {
	x := shop()
	for d, l := range [4][3]bool{{true, true, true}, {true, false, true}, {false, true, true}, {false, false, true}} {
		for i, want := range l {
			at(t, x, 2, d, i, want)
		}
		at(t, x, 2, d, 3, false)
	}
	at(t, x, 0, 1, 0, true)
	at(t, x, 1, 0, 0, false)
	at(t, x, 0, 3, 0, false)
	at(t, x, 3, 0, 0, true)
	at(t, x, 3, 0, 1, false)
	asTold(t, x)
	asTold(t, api.Catalogue{})
}

// full tells a catalogue of which all Breaks have all bits.
func full(x api.Catalogue) api.Catalogue {
	for c := range x.Breaks {
		x.Breaks[c] = [4]int{-1, -1, -1, -1}
	}
	return x
}

// TestBreakWhateverItsBit: of classes, or of steps, that aren't there, and of the last one.
func TestBreakWhateverItsBit(t *testing.T) {
	for _, l := range [][]int{{}, {1}, {2}, {3}, {4}, {2, 3}, {4, 1}, {1, 4}, {4, 2, 3}, {3, 1, 4, 2}, {0, 2}, {5, 6}, {2, 2, 2, 2, 2}, {3, 4, 3, 4, 3, 4}} {
		x := steps(l...)
		asTold(t, x)
		asTold(t, full(x))
		for c := range 6 {
			for d := range 6 {
				for i := range 8 {
					there := c < len(l) && d < len(l) && c < 4 && d < 4
					at(t, full(x), c, d, i, there && i <= l[c]-2)
				}
			}
		}
	}
}

// TestBreakOfMoreStepsThanMayBe: a number has 64 bits, however many steps there are.
func TestBreakOfMoreStepsThanMayBe(t *testing.T) {
	for _, n := range []int{62, 63, 64, 65, 66, 67, 100, 130} {
		asTold(t, steps(n))
		asTold(t, full(steps(n)))
		asTold(t, broken(steps(n), [4]int{math.MinInt}))
		at(t, full(steps(n)), 0, 0, 61, n > 62)
		at(t, full(steps(n)), 0, 0, 62, n > 63)
		at(t, full(steps(n)), 0, 0, 63, n > 64)
		at(t, full(steps(n)), 0, 0, 64, false)
		if b := Breaks(full(steps(n))); b != min(n-1, 64) {
			t.Errorf("of %d steps: %d", n, b)
		}
	}
}

// TestBreakOfUnevenClasses: steps are counted, not Comps.
func TestBreakOfUnevenClasses(t *testing.T) {
	x := full(steps(3, 3))
	x.Classes[0].Comps = x.Classes[0].Comps[:1]
	x.Classes[1].Steps = x.Classes[1].Steps[:2]
	at(t, x, 0, 1, 1, true)
	at(t, x, 0, 1, 2, false)
	at(t, x, 1, 0, 0, true)
	at(t, x, 1, 0, 1, false)
	if n := Breaks(x); n != 6 {
		t.Error(n)
	}
	if y := Open(x); y.Breaks != (breaks{{3, 3}, {1, 1}}) {
		t.Error(y.Breaks)
	}
}

func TestBreakOfAny(t *testing.T) {
	rnd := rand.New(rand.NewSource(5))
	var b balance
	for range 300 {
		x := turned(rnd)
		asTold(t, x)
		eachBit(func(c, d, i int) {
			at(t, x, c, d, i, pointAt(x, c, d, i))
			b.add(pointAt(x, c, d, i))
		})
	}
	b.held(t, 1000)
}

// P12.3: Open and Closed.

// opens sees to it that a catalogue's open one, and its closed one, are as the model says.
func opens(t *testing.T, x api.Catalogue) {
	t.Helper()
	open, shut := whole(opened(x)), whole(closed(x))
	for _, c := range []struct {
		name string
		x    api.Catalogue
		want string
	}{
		{"Open", Open(x), open}, {"Closed", Closed(x), shut},
		{"Open of Open", Open(Open(x)), open}, {"Closed of Closed", Closed(Closed(x)), shut},
		{"Open of Closed", Open(Closed(x)), open}, {"Closed of Open", Closed(Open(x)), shut},
	} {
		if whole(c.x) != c.want {
			t.Errorf("%s of %s: %s, not %s", c.name, whole(x), whole(c.x), c.want)
		}
	}
}

// openAs sees to it that what is open, and what is closed, has these Breaks.
func openAs(t *testing.T, x api.Catalogue, want breaks) {
	t.Helper()
	opens(t, x)
	if y := Open(x); y.Breaks != want {
		t.Errorf("Open(%s): %v, not %v", whole(x), y.Breaks, want)
	}
	if y := Closed(x); y.Breaks != (breaks{}) {
		t.Errorf("Closed(%s): %v", whole(x), y.Breaks)
	}
}

func TestOpen(t *testing.T) {
	want := breaks{{3, 3, 3, 3}, {}, {7, 7, 7, 7}, {1, 1, 1, 1}}
	openAs(t, shop(), want)
	openAs(t, Closed(shop()), want)
	openAs(t, api.Catalogue{}, breaks{})
	for n, b := range []int{0, 0, 1, 3, 7, 15} {
		openAs(t, steps(n), breaks{{b}})
		openAs(t, steps(n, 4), breaks{{b, b}, {7, 7}})
		openAs(t, steps(4, n, 2), breaks{{7, 7, 7}, {b, b, b}, {1, 1, 1}})
	}
	// The chapter's example.
	if n := Breaks(Open(steps(3))); n != 2 {
		t.Error(n)
	}
}

// TestOpenOfBreaksThatMayNotBe: of classes, or of steps, that aren't there no bit stays, open or closed.
func TestOpenOfBreaksThatMayNotBe(t *testing.T) {
	for _, l := range [][]int{{}, {1}, {2}, {4}, {1, 4}, {4, 2, 3}, {3, 1, 4, 2}} {
		want := opened(steps(l...)).Breaks
		openAs(t, full(steps(l...)), want)
		for c := range 4 {
			for d := range 4 {
				for _, b := range append([]int{1, 2, 4, 8, -1}, far...) {
					x := steps(l...)
					x.Breaks[c][d] = b
					openAs(t, x, want)
				}
			}
		}
	}
}

// TestOpenOfCataloguesThatMayNotBe: their classes are as they are.
func TestOpenOfCataloguesThatMayNotBe(t *testing.T) {
	for i := range 4 {
		for _, c := range notClasses("bad") {
			opens(t, changed(func(x *api.Catalogue) { x.Classes[i] = c }))
			may(t, Open(changed(func(x *api.Catalogue) { x.Classes[i] = c })), false)
		}
	}
	openAs(t, of(named("a", 3), named("a", 2)), breaks{{3, 3}, {1, 1}})
	openAs(t, of(api.Class{}), breaks{})
	openAs(t, steps(2, 2, 2, 2, 2), breaks{{1, 1, 1, 1}, {1, 1, 1, 1}, {1, 1, 1, 1}, {1, 1, 1, 1}})
	openAs(t, full(steps(1, 1, 1, 1, 4, 4)), breaks{})
	for _, n := range []int{62, 63, 64, 65, 66, 100, 130} {
		opens(t, steps(n))
		opens(t, full(steps(1, n)))
	}
	openAs(t, steps(64), breaks{{math.MaxInt}})
	openAs(t, steps(65), breaks{{-1}})
	openAs(t, steps(66), breaks{{-1}})
}

func TestOpenOfAny(t *testing.T) {
	rnd := rand.New(rand.NewSource(6))
	for range 3000 {
		opens(t, good(rnd))
		opens(t, turned(rnd))
	}
}

// P12.3: Breaks.

// has sees to it that a catalogue has so many breakpoints, as the model says too.
func has(t *testing.T, x api.Catalogue, want int) {
	t.Helper()
	if counted(x) != want {
		t.Fatalf("the model of %s", whole(x))
	}
	if n := Breaks(x); n != want {
		t.Errorf("Breaks(%s): %d, not %d", whole(x), n, want)
	}
}

func TestBreaks(t *testing.T) {
	has(t, api.Catalogue{}, 0)
	has(t, shop(), 4+8+3)
	has(t, Closed(shop()), 0)
	has(t, Open(shop()), 4*(2+0+3+1))
	has(t, Open(steps(4, 4, 4, 4)), 48)
	for c := range 4 {
		for d := range 4 {
			for b, n := range []int{0, 1, 1, 2, 1, 2, 2, 3} {
				x := steps(4, 4, 4, 4)
				x.Breaks[c][d] = b
				has(t, x, n)
			}
		}
	}
}

// TestBreaksOfBitsThatMeanNone: of classes, or of steps, that aren't there, and of the last one.
func TestBreaksOfBitsThatMeanNone(t *testing.T) {
	for n, want := range []int{0, 0, 1, 2, 3, 4} {
		has(t, full(steps(n)), want)
		has(t, full(steps(4, n)), 2*want+6)
		has(t, full(steps(n, 1, 1, 1, 4)), 4*want)
		has(t, broken(steps(n), [4]int{0, -1, 1, 2}, [4]int{1}), 0)
		has(t, broken(steps(n), [4]int{math.MinInt}), 0)
		has(t, broken(steps(n), [4]int{-8}), max(n-4, 0))
		has(t, broken(steps(n, 1), [4]int{0, 3, 3}, [4]int{3, 3}, [4]int{3, 3, 3}), min(want, 2))
	}
	has(t, full(api.Catalogue{}), 0)
	has(t, full(of(api.Class{}, api.Class{})), 0)
	has(t, broken(of(named("a", 4), named("a", 4)), [4]int{0, 9}), 1)
}

// TestBreaksAreAsManyAsBreakTells: and so they are of any.
func TestBreaksAreAsManyAsBreakTells(t *testing.T) {
	rnd := rand.New(rand.NewSource(7))
	for range 3000 {
		x := randomOf(rnd, good, turned)(rnd)
		has(t, x, counted(x))
		n := 0
		eachBit(func(c, d, i int) {
			if Break(x, c, d, i) {
				n++
			}
		})
		has(t, x, n)
		has(t, Closed(x), 0)
		has(t, Open(x), counted(opened(x)))
	}
}

// P12.4

// TestReadFromItsWords: a catalogue that may be is read from its words, whatever stands ahead of them and behind; so is what is open, or closed.
func TestReadFromItsWords(t *testing.T) {
	rnd := rand.New(rand.NewSource(8))
	for range 2000 {
		x := good(rnd)
		all := []api.Catalogue{x, Open(x), x, Closed(x)}
		var w codes.Writer
		w.Signed(-5)
		for _, x := range all {
			may(t, x, true)
			Put(&w, x)
		}
		w.Text("ab")
		r := codes.NewReader(w.Done())
		if x := r.Signed(); x != -5 {
			t.Fatal(x)
		}
		for _, want := range all {
			if x, ok := Get(r); !ok || whole(x) != whole(want) || !May(x) || !r.Ok() {
				t.Fatalf("%s is read as %s", whole(want), whole(x))
			}
		}
		if s := r.Text(); s != "ab" || !r.End() {
			t.Fatal("the text behind:", s)
		}
	}
}

// TestReadAtTheEdges: the least catalogue there may be, and the greatest one.
func TestReadAtTheEdges(t *testing.T) {
	k := api.KeyT{Arg: 2, Base: 900}
	step := api.Step{Code: slices.Repeat([]api.Instr{{Op: api.OpScan, A: 3, K: k, L: k}}, 8), Foot: slices.Repeat([]api.SpanT{{Lo: k, Hi: k, Write: true}}, 4)}
	var most api.Catalogue
	for i := range 4 {
		l := slices.Repeat([]api.Step{step}, 4)
		most.Classes = append(most.Classes, api.Class{Name: strings.Repeat("\xff", 15) + string(rune('0'+i)), Args: 3, Steps: l, Comps: l, Resume: true})
	}
	for _, x := range []api.Catalogue{most, Open(most), of(named("\x00", 1))} {
		may(t, x, true)
		reads(t, put(x), x, 0)
		reads(t, put(Open(x)), opened(x), 0)
		reads(t, put(Closed(x)), closed(x), 0)
	}
}

// TestOpenMayBe: what is open, or closed, may be, if all but the breakpoints may.
func TestOpenMayBe(t *testing.T) {
	rnd := rand.New(rand.NewSource(9))
	var b balance
	for range 5000 {
		x := turned(rnd)
		want := mayBe(closed(x))
		may(t, Open(x), want)
		may(t, Closed(x), want)
		b.add(want)
	}
	b.held(t, 500)
}

// What is handed in is left as it was, its spare room too, and an answer is new memory.

// spoil writes over all that the lists of classes have, their spare room too.
func spoil(l []api.Class) {
	for _, c := range l {
		for _, steps := range [][]api.Step{c.Steps, c.Comps} {
			for _, s := range steps {
				clear(s.Code[:cap(s.Code)])
				clear(s.Foot[:cap(s.Foot)])
			}
			clear(steps[:cap(steps)])
		}
	}
	clear(l[:cap(l)])
}

// roomy tells a catalogue whose lists all have more behind them, spare, which is the catalogue all tells.
func roomy() (x, all api.Catalogue) {
	all = of(rich("a"), rich("b"), rich("c"))
	for i := range all.Classes {
		for _, l := range [][]api.Step{all.Classes[i].Steps, all.Classes[i].Comps} {
			for k := range l {
				l[k].Code = append(l[k].Code, set(5), set(6))
				l[k].Foot = append(l[k].Foot, api.SpanT{}, api.SpanT{Write: true})
			}
		}
	}
	all = full(all)
	x = all
	x.Classes = slices.Clone(all.Classes)
	for i := range x.Classes {
		for _, l := range []*[]api.Step{&x.Classes[i].Steps, &x.Classes[i].Comps} {
			*l = slices.Clone(*l)
			for k := range *l {
				s := &(*l)[k]
				s.Code, s.Foot = s.Code[:len(s.Code)-2], s.Foot[:len(s.Foot)-2]
			}
			*l = (*l)[:2]
		}
	}
	x.Classes = x.Classes[:2]
	return x, all
}

func TestWhatIsHandedInIsLeftAsItWas(t *testing.T) {
	x, all := roomy()
	wasX, wasAll := roomy()
	for range 2 {
		for _, y := range []api.Catalogue{x, all} {
			may(t, y, false)
			may(t, Closed(y), mayBe(closed(y)))
			opens(t, y)
			has(t, y, counted(y))
			asTold(t, y)
			finds(t, y, "b", 1)
			if l := put(y); !slices.Equal(l, wordsOf(y)) {
				t.Errorf("%d", l)
			}
		}
	}
	if whole(x) != whole(wasX) || whole(all) != whole(wasAll) {
		t.Errorf("changed: %s, %s", whole(x), whole(all))
	}
	if whole(of(x.Classes[:3]...)) != whole(of(wasX.Classes[:3]...)) {
		t.Errorf("changed behind: %v", x.Classes[:3])
	}
	for i := range x.Classes {
		if c, was := x.Classes[i], wasX.Classes[i]; whole(of(api.Class{Steps: c.Steps[:3], Comps: c.Comps[:3]})) != whole(of(api.Class{Steps: was.Steps[:3], Comps: was.Comps[:3]})) {
			t.Errorf("changed behind: %v", c.Steps[:3])
		}
	}
}

func TestPutKeepsNothing(t *testing.T) {
	var w codes.Writer
	x := shop()
	Put(&w, x)
	spoil(x.Classes)
	if l := w.Done(); !slices.Equal(l, wordsOf(shop())) {
		t.Errorf("something of the catalogue is kept: %d", l)
	}
}

// TestOpenSharesNoMemory: what is open, or closed, goes its own way from what was handed in, and from other answers.
func TestOpenSharesNoMemory(t *testing.T) {
	for name, call := range map[string]func(x api.Catalogue) api.Catalogue{"Open": Open, "Closed": Closed} {
		x, _ := roomy()
		was, _ := roomy()
		want := whole(call(was))
		a, b := call(x), call(x)
		spoil(a.Classes)
		if whole(x) != whole(was) || whole(of(x.Classes[:3]...)) != whole(of(was.Classes[:3]...)) || whole(b) != want {
			t.Errorf("%s shares with what was handed in, or with another answer: %s, %s", name, whole(x), whole(b))
		}
		spoil(x.Classes)
		if whole(b) != want {
			t.Errorf("%s shares with what was handed in: %s", name, whole(b))
		}
	}
}

// lists tells every step of classes, those of their Steps and those of their Comps.
func lists(l []api.Class) []*api.Step {
	var all []*api.Step
	for i := range l {
		for k := range l[i].Steps {
			all = append(all, &l[i].Steps[k])
		}
		for k := range l[i].Comps {
			all = append(all, &l[i].Comps[k])
		}
	}
	return all
}

// TestNoTwoListsOfAnAnswerShareMemory: though those of what was handed in do.
func TestNoTwoListsOfAnAnswerShareMemory(t *testing.T) {
	c := named("a", 2)
	c.Steps[0].Foot = []api.SpanT{{Lo: api.KeyT{Arg: -1, Base: 1}, Hi: api.KeyT{Arg: -1, Base: 2}}}
	c.Steps[1] = c.Steps[0]
	c.Comps = c.Steps
	d := c
	d.Name = "b"
	x := of(c, d)
	may(t, x, true)
	words := put(x)
	for name, call := range map[string]func() api.Catalogue{
		"Open":   func() api.Catalogue { return Open(x) },
		"Closed": func() api.Catalogue { return Closed(x) },
		"Get": func() api.Catalogue {
			y, _ := Get(codes.NewReader(words))
			return y
		},
	} {
		for i := range lists(x.Classes) {
			y := call()
			all := lists(y.Classes)
			code, foot := all[i].Code[:cap(all[i].Code)], all[i].Foot[:cap(all[i].Foot)]
			for n := range code {
				code[n] = set(77)
			}
			for n := range foot {
				foot[n].Write = true
			}
			for k, s := range all {
				if (s.Code[0] == set(77)) != (k == i) || s.Foot[0].Write != (k == i) {
					t.Errorf("%s: the steps %d and %d share", name, i, k)
				}
			}
			*all[i] = api.Step{}
			for k, s := range lists(y.Classes) {
				if (len(s.Code) == 0) != (k == i) {
					t.Errorf("%s: the lists of the steps %d and %d are one", name, i, k)
				}
			}
		}
	}
}

func TestGetSharesNoMemory(t *testing.T) {
	words := slices.Concat(wordsOf(shop()), wordsOf(shop()))
	was := slices.Clone(words)
	r, other := codes.NewReader(words), codes.NewReader(words)
	a, _ := Get(r)
	b, _ := Get(other)
	spoil(a.Classes)
	if whole(b) != whole(shop()) || !slices.Equal(words, was) {
		t.Errorf("the other reader's catalogue, or the words: %s, %d", whole(b), words)
	}
	for _, x := range []*codes.Reader{r, other} {
		if y, ok := Get(x); !ok || whole(y) != whole(shop()) || !x.End() {
			t.Errorf("the next catalogue: %s, %t", whole(y), ok)
		}
	}
}

// TestTheSameAgain: nothing is kept from call to call.
func TestTheSameAgain(t *testing.T) {
	for range 3 {
		may(t, shop(), true)
		may(t, api.Catalogue{}, false)
		finds(t, shop(), "pay", 2)
		finds(t, api.Catalogue{}, "pay", -1)
		asTold(t, shop())
		opens(t, shop())
		has(t, shop(), 15)
		noneOf(t, "one word", codes.NewReader([]uint64{5}))
		reads(t, wordsOf(shop()), shop(), 0)
		if l := put(shop()); !slices.Equal(l, wordsOf(shop())) {
			t.Error("Put:", l)
		}
	}
}
