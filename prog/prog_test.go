package prog

import (
	"fmt"
	"math"
	"math/rand"
	"slices"
	"strings"
	"testing"

	"gimmal/api"
	"gimmal/codes"
)

// The model: what the document's words say, done plainly.

// has tells which parts an Op has, by the letters A, B, C, K, L and X; none of what is no Op.
func has(op int) string {
	switch op {
	case 1:
		return "AK"
	case 2:
		return "AK"
	case 3:
		return "K"
	case 4:
		return "AKL"
	case 5:
		return "AX"
	case 6:
		return "ABC"
	case 7:
		return "ABC"
	case 8:
		return "AX"
	}
	return ""
}

// keyMayBe tells whether a template may be for so many arguments.
func keyMayBe(k api.KeyT, args int) bool {
	return args >= 0 && args < 4 && k.Arg > -2 && k.Arg < args && k.Base > -1 && k.Base < 901
}

// instrMayBe tells whether an instruction may be for so many arguments, part by part.
func instrMayBe(x api.Instr, args int) bool {
	parts := has(x.Op)
	for _, c := range []struct {
		part     string
		may, not bool
	}{
		{"A", x.A >= 0 && x.A < 4, x.A == 0},
		{"B", x.B >= 0 && x.B < 4, x.B == 0},
		{"C", x.C >= 0 && x.C < 4, x.C == 0},
		{"K", keyMayBe(x.K, args), x.K.Arg == 0 && x.K.Base == 0},
		{"L", keyMayBe(x.L, args), x.L.Arg == 0 && x.L.Base == 0},
		{"X", true, x.X == 0},
	} {
		if own := strings.Contains(parts, c.part); own && !c.may || !own && !c.not {
			return false
		}
	}
	return parts != ""
}

// mayBe tells whether a program may be for so many arguments.
func mayBe(l []api.Instr, args int) bool {
	for _, x := range l {
		if !instrMayBe(x, args) {
			return false
		}
	}
	return args >= 0 && args < 4 && len(l) > 0 && len(l) < 9
}

// signed tells a number with a sign as a word, modulo 2^64.
func signed(x int64) uint64 {
	if x >= 0 {
		return 2 * uint64(x)
	}
	return 2*uint64(-1-x) + 1
}

// count tells a count as a word: 0 of what is below that.
func count(n int) uint64 {
	if n < 0 {
		return 0
	}
	return uint64(n)
}

// wordsOf tells a program's words.
func wordsOf(l []api.Instr) []uint64 {
	all := []uint64{count(len(l))}
	for _, x := range l {
		all = append(all, count(x.Op), count(x.A), count(x.B), count(x.C))
		all = append(all, signed(int64(x.K.Arg)), count(x.K.Base))
		all = append(all, signed(int64(x.L.Arg)), count(x.L.Base))
		all = append(all, signed(x.X))
	}
	return all
}

// fitsIn tells whether a word that stands at a place of an instruction's words is right there.
func fitsIn(place int, w uint64) bool {
	switch place {
	case 4, 6:
		// Those of -1, and of 0 to 255.
		return w == 1 || w%2 == 0 && w < 512
	case 5, 7:
		return w < 1000
	case 8:
		return true
	}
	return w < 256
}

// unsigned tells the number with a sign that a word is.
func unsigned(w uint64) int64 {
	if w%2 == 0 {
		return int64(w / 2)
	}
	return -1 - int64(w/2)
}

// programOf tells the program that stands at the beginning of words, how many words it takes, and whether there is one.
func programOf(l []uint64) ([]api.Instr, int, bool) {
	if len(l) == 0 || l[0] > 8 || len(l) < 1+9*int(l[0]) {
		return nil, 0, false
	}
	var all []api.Instr
	for i := range int(l[0]) {
		p := l[1+9*i : 10+9*i]
		for place, w := range p {
			if !fitsIn(place, w) {
				return nil, 0, false
			}
		}
		all = append(all, api.Instr{
			Op: int(p[0]), A: int(p[1]), B: int(p[2]), C: int(p[3]),
			K: api.KeyT{Arg: int(unsigned(p[4])), Base: int(p[5])},
			L: api.KeyT{Arg: int(unsigned(p[6])), Base: int(p[7])},
			X: unsigned(p[8]),
		})
	}
	return all, 1 + 9*len(all), true
}

// keyIn tells a template in words.
func keyIn(k api.KeyT) string {
	if k.Arg >= 0 {
		return fmt.Sprintf("%d+a%d", k.Base, k.Arg)
	}
	return fmt.Sprint(k.Base)
}

// textOf tells an instruction in words.
func textOf(x api.Instr) string {
	form := map[int]string{
		1: "get rA K", 2: "put K rA", 3: "delete K", 4: "scan rA K L", 5: "set rA X",
		6: "add rA rB rC", 7: "sub rA rB rC", 8: "guard rA X",
	}[x.Op]
	if form == "" {
		return "?"
	}
	return strings.NewReplacer(
		"A", fmt.Sprint(x.A), "B", fmt.Sprint(x.B), "C", fmt.Sprint(x.C),
		"K", keyIn(x.K), "L", keyIn(x.L), "X", fmt.Sprint(x.X),
	).Replace(form)
}

// What is tried.

// Templates that may be for any number of arguments, and for one argument or more.
var (
	alone = api.KeyT{Arg: -1, Base: 900}
	first = api.KeyT{Arg: 0, Base: 5}
)

// each tells an instruction of each Op that may be for one argument or more, with all that its Op has other than zero.
func each() []api.Instr {
	return []api.Instr{
		{Op: api.OpGet, A: 3, K: first},
		{Op: api.OpPut, A: 1, K: alone},
		{Op: api.OpDelete, K: first},
		{Op: api.OpScan, A: 2, K: first, L: alone},
		{Op: api.OpSet, A: 1, X: -7},
		{Op: api.OpAdd, A: 1, B: 2, C: 3},
		{Op: api.OpSub, A: 3, B: 1, C: 2},
		{Op: api.OpGuard, A: 2, X: 4},
	}
}

// far has numbers at the ends of what there is.
var far = []int{math.MinInt, math.MinInt + 1, -1 << 32, 1 << 32, math.MaxInt - 1, math.MaxInt}

// someX has numbers far below 0, near it, and far above it.
var someX = []int64{math.MinInt64, math.MinInt64 + 1, -1 << 62, -1<<31 - 1, -2, -1, 0, 1, 2, 1 << 31, 1<<62 - 1, 1 << 62, math.MaxInt64 - 1, math.MaxInt64}

// times tells a program of an instruction so many times.
func times(x api.Instr, n int) []api.Instr { return slices.Repeat([]api.Instr{x}, n) }

// may sees to it that a program may be, or may not, for so many arguments, as the model says too.
func may(t *testing.T, l []api.Instr, args int, want bool) {
	t.Helper()
	if mayBe(l, args) != want {
		t.Fatalf("the model of %v, %d", l, args)
	}
	if May(l, args) != want {
		t.Errorf("May(%v, %d): %t", l, args, !want)
	}
}

// only tells an instruction of an Op with nothing but what that has of another one.
func only(full api.Instr, op int) api.Instr {
	x := api.Instr{Op: op}
	for _, part := range has(op) {
		switch part {
		case 'A':
			x.A = full.A
		case 'B':
			x.B = full.B
		case 'C':
			x.C = full.C
		case 'K':
			x.K = full.K
		case 'L':
			x.L = full.L
		case 'X':
			x.X = full.X
		}
	}
	return x
}

// unlike tells an instruction of which all that its Op hasn't is another than zero, and all else is that of x.
func unlike(x api.Instr) api.Instr {
	y := x
	for _, part := range "ABCKLX" {
		if strings.ContainsRune(has(x.Op), part) {
			continue
		}
		switch part {
		case 'A':
			y.A = 91
		case 'B':
			y.B = 92
		case 'C':
			y.C = 93
		case 'K':
			y.K = api.KeyT{Arg: 94, Base: 95}
		case 'L':
			y.L = api.KeyT{Arg: 96, Base: 97}
		case 'X':
			y.X = 98
		}
	}
	return y
}

// randomOf tells one of some things.
func randomOf[T any](rnd *rand.Rand, l ...T) T { return l[rnd.Intn(len(l))] }

// goodKey tells any template that may be for so many arguments.
func goodKey(rnd *rand.Rand, args int) api.KeyT {
	return api.KeyT{Arg: rnd.Intn(args+1) - 1, Base: randomOf(rnd, 0, 1, 899, 900, rnd.Intn(901))}
}

// goodInstr tells any instruction that may be for so many arguments.
func goodInstr(rnd *rand.Rand, args int) api.Instr {
	return only(api.Instr{
		A: rnd.Intn(4), B: rnd.Intn(4), C: rnd.Intn(4), K: goodKey(rnd, args), L: goodKey(rnd, args),
		X: randomOf(rnd, randomOf(rnd, someX...), int64(rnd.Uint64())),
	}, 1+rnd.Intn(8))
}

// good tells any program that may be for so many arguments.
func good(rnd *rand.Rand, args int) []api.Instr {
	var l []api.Instr
	for range 1 + rnd.Intn(8) {
		l = append(l, goodInstr(rnd, args))
	}
	return l
}

// turned tells an instruction of which one number is another one, near the edges or far.
func turned(rnd *rand.Rand, x api.Instr) api.Instr {
	parts := []*int{&x.Op, &x.A, &x.B, &x.C, &x.K.Arg, &x.K.Base, &x.L.Arg, &x.L.Base}
	if i := rnd.Intn(len(parts) + 1); i < len(parts) {
		*parts[i] = randomOf(rnd, -2, -1, 0, 1, 2, 3, 4, 5, 8, 9, 255, 256, 899, 900, 901, 999, 1000, randomOf(rnd, far...))
	} else {
		x.X = randomOf(rnd, someX...)
	}
	return x
}

// P9.1: May.

func TestMayOfEachOp(t *testing.T) {
	for _, x := range each() {
		for args := 1; args <= 3; args++ {
			may(t, []api.Instr{x}, args, true)
		}
	}
	may(t, each(), 1, true)
	may(t, each(), 3, true)
}

func TestMayOfArguments(t *testing.T) {
	for _, x := range []api.Instr{{Op: 1, K: alone}, {Op: 2, K: alone}, {Op: 3, K: alone}, {Op: 4, K: alone, L: alone}, {Op: 5}, {Op: 6}, {Op: 7}, {Op: 8}} {
		for args := range 4 {
			may(t, []api.Instr{x}, args, true)
		}
		for _, args := range append([]int{-1, -2, 4, 5, 256}, far...) {
			may(t, []api.Instr{x}, args, false)
		}
	}
}

// TestMayOfTemplates tries each of the templates that an Op has, the others as they may be.
func TestMayOfTemplates(t *testing.T) {
	bases := append([]int{-1, 0, 1, 899, 900, 901, 999, 1000}, far...)
	for args := range 4 {
		for _, arg := range append([]int{-3, -2, -1, 0, 1, 2, 3, 4}, far...) {
			for _, base := range bases {
				k := api.KeyT{Arg: arg, Base: base}
				want := arg >= -1 && arg < args && base >= 0 && base <= 900
				for op := range api.OpDelete {
					may(t, []api.Instr{{Op: op + 1, K: k}}, args, want)
				}
				may(t, []api.Instr{{Op: api.OpScan, K: k, L: alone}}, args, want)
				may(t, []api.Instr{{Op: api.OpScan, K: alone, L: k}}, args, want)
			}
		}
	}
}

func TestMayOfASpanThatHasNoKeys(t *testing.T) {
	may(t, []api.Instr{{Op: api.OpScan, K: api.KeyT{Arg: -1, Base: 9}, L: api.KeyT{Arg: -1, Base: 8}}}, 0, true)
	may(t, []api.Instr{{Op: api.OpScan, K: alone, L: first}}, 1, true)
}

func TestMayOfOps(t *testing.T) {
	for _, op := range append([]int{-9, -8, -1, 0, 9, 10, 255, 256, 257, 264, 1<<32 + 1, math.MinInt + 5}, far...) {
		for _, x := range append(each(), api.Instr{}) {
			x.Op = op
			may(t, []api.Instr{x}, 1, false)
		}
	}
}

func TestMayOfRegisters(t *testing.T) {
	for _, n := range append([]int{-4, -1, 0, 1, 2, 3, 4, 5, 256, 1<<32 + 1}, far...) {
		want := n >= 0 && n <= 3
		for _, x := range each() {
			for _, part := range has(x.Op) {
				y := x
				switch part {
				case 'A':
					y.A = n
				case 'B':
					y.B = n
				case 'C':
					y.C = n
				default:
					continue
				}
				may(t, []api.Instr{y}, 1, want)
			}
		}
	}
}

func TestMayOfX(t *testing.T) {
	for _, x := range someX {
		may(t, []api.Instr{{Op: api.OpSet, X: x}, {Op: api.OpGuard, A: 3, X: x}}, 0, true)
	}
}

// TestMayOfWhatAnOpHasNot: one number alone of all that an Op hasn't is other than zero; each would be right where an Op has it.
func TestMayOfWhatAnOpHasNot(t *testing.T) {
	for _, x := range each() {
		for _, part := range "ABCKLX" {
			if strings.ContainsRune(has(x.Op), part) {
				continue
			}
			var wrong [4]api.Instr
			for i := range wrong {
				wrong[i] = x
			}
			switch part {
			case 'A':
				wrong[0].A, wrong[1].A, wrong[2].A, wrong[3].A = 1, 3, -1, 4
			case 'B':
				wrong[0].B, wrong[1].B, wrong[2].B, wrong[3].B = 1, 3, -1, 4
			case 'C':
				wrong[0].C, wrong[1].C, wrong[2].C, wrong[3].C = 1, 3, -1, 4
			case 'K':
				wrong[0].K.Arg, wrong[1].K.Arg, wrong[2].K.Base, wrong[3].K = -1, 1, 1, alone
			case 'L':
				wrong[0].L.Arg, wrong[1].L.Arg, wrong[2].L.Base, wrong[3].L = -1, 1, 1, alone
			case 'X':
				wrong[0].X, wrong[1].X, wrong[2].X, wrong[3].X = 1, -1, math.MinInt64, math.MaxInt64
			}
			for _, y := range wrong {
				may(t, []api.Instr{y}, 3, false)
			}
		}
	}
}

func TestMayOfHowMany(t *testing.T) {
	for _, x := range each() {
		for n := range 12 {
			may(t, times(x, n), 1, n >= 1 && n <= 8)
		}
		may(t, times(x, 256), 1, false)
		may(t, times(x, 257), 1, false)
	}
	may(t, nil, 1, false)
	may(t, nil, 0, false)
	may(t, []api.Instr{}, 3, false)
}

// TestMayOfOneThatMayNotBe: a program of which one instruction alone may not be, wherever it stands.
func TestMayOfOneThatMayNotBe(t *testing.T) {
	for _, wrong := range []api.Instr{{}, {Op: 9}, {Op: api.OpGet, A: 4, K: alone}, {Op: api.OpPut, K: api.KeyT{Arg: 1}}, {Op: api.OpDelete, A: 1, K: alone}} {
		for n := 1; n <= 8; n++ {
			for at := range n {
				l := times(api.Instr{Op: api.OpGet, K: first}, n)
				l[at] = wrong
				may(t, l, 1, false)
			}
		}
		may(t, append(each()[:7], wrong), 1, false)
	}
}

func TestMayOfAny(t *testing.T) {
	rnd := rand.New(rand.NewSource(1))
	both := [2]int{}
	for range 50000 {
		args := rnd.Intn(4)
		l := good(rnd, args)
		if rnd.Intn(3) > 0 {
			i := rnd.Intn(len(l))
			l[i] = turned(rnd, l[i])
		}
		args = randomOf(rnd, args, args, args, args-1, args+1)
		may(t, l, args, mayBe(l, args))
		if mayBe(l, args) {
			both[1]++
		} else {
			both[0]++
		}
	}
	if min(both[0], both[1]) < 5000 {
		t.Error("what is tried is of one sort:", both)
	}
}

// P9.1: Sure.

func TestSure(t *testing.T) {
	all := each()
	for i, x := range all {
		want := x.Op <= api.OpSet
		if Sure([]api.Instr{x}) != want || Sure(times(x, 8)) != want {
			t.Errorf("Sure of the Op %d: %t", x.Op, !want)
		}
		if Sure(all[:i+1]) != want {
			t.Errorf("Sure of the Ops up to %d: %t", x.Op, !want)
		}
	}
	if Sure(all) || Sure(all[5:]) || Sure(all[7:]) || !Sure(all[:5]) {
		t.Error("Sure of some of all Ops")
	}
}

// TestSureWhereverItStands: one instruction that can fail, among others that can't.
func TestSureWhereverItStands(t *testing.T) {
	for _, op := range []int{api.OpAdd, api.OpSub, api.OpGuard} {
		for n := 1; n <= 8; n++ {
			for at := range n {
				l := times(api.Instr{Op: api.OpPut, K: alone}, n)
				if !Sure(l) {
					t.Error("Sure of", l)
				}
				l[at] = api.Instr{Op: op}
				if Sure(l) {
					t.Error("Sure of", l)
				}
			}
		}
	}
}

// TestSureOfNoProgram: none of the instructions is one that can fail, whether the program may be or not.
func TestSureOfNoProgram(t *testing.T) {
	if !Sure(nil) || !Sure([]api.Instr{}) {
		t.Error("Sure of none")
	}
	for _, op := range append([]int{-8, -7, -6, -1, 0, 9, 10, 262, 1<<32 + 6}, far...) {
		if !Sure([]api.Instr{{Op: op}}) {
			t.Error("Sure of the Op", op)
		}
		if Sure([]api.Instr{{Op: op}, {Op: api.OpAdd, A: -1}}) {
			t.Error("Sure of the Op", op, "and of Add")
		}
	}
	if !Sure(times(api.Instr{Op: api.OpSet, A: 9, B: 9}, 9)) || Sure(append(times(api.Instr{Op: api.OpSet}, 9), api.Instr{Op: api.OpSub})) {
		t.Error("Sure of more than there may be")
	}
}

// P9.1: Key.

// hasKey sees to it that a template has a key for arguments.
func hasKey(t *testing.T, k api.KeyT, args []int, want int) {
	t.Helper()
	if x, ok := Key(k, args); x != want || !ok {
		t.Errorf("Key(%v, %d): %d, %t, not %d", k, args, x, ok, want)
	}
}

// hasNone sees to it that a template has no key for arguments.
func hasNone(t *testing.T, k api.KeyT, args []int) {
	t.Helper()
	if x, ok := Key(k, args); x != 0 || ok {
		t.Errorf("Key(%v, %d): %d, %t", k, args, x, ok)
	}
}

func TestKey(t *testing.T) {
	hasKey(t, first, []int{7}, 12)
	hasKey(t, first, []int{99}, 104)
	hasKey(t, alone, nil, 900)
	hasKey(t, alone, []int{}, 900)
	for _, base := range []int{0, 1, 5, 899, 900} {
		for _, args := range [][]int{nil, {}, {0}, {99}, {1, 2}, {99, 0}, {1, 2, 3}, {99, 99, 99}, {0, 99, 1}} {
			hasKey(t, api.KeyT{Arg: -1, Base: base}, args, base)
			for arg, a := range args {
				hasKey(t, api.KeyT{Arg: arg, Base: base}, args, base+a)
			}
		}
	}
}

func TestKeyOfATemplateThatMayNotBe(t *testing.T) {
	for _, args := range [][]int{nil, {1}, {1, 2}, {1, 2, 3}} {
		for _, arg := range append([]int{-3, -2, len(args), len(args) + 1, 4}, far...) {
			hasNone(t, api.KeyT{Arg: arg, Base: 5}, args)
		}
		for _, base := range append([]int{-100, -1, 901, 999, 1000}, far...) {
			hasNone(t, api.KeyT{Arg: -1, Base: base}, args)
			hasNone(t, api.KeyT{Arg: 0, Base: base}, args)
		}
	}
}

// TestKeyOfAnArgumentThatIsNone: each of the arguments counts, the key's own or not.
func TestKeyOfAnArgumentThatIsNone(t *testing.T) {
	for _, wrong := range append([]int{-99, -2, -1, 100, 101, 999}, far...) {
		for n := 1; n <= 3; n++ {
			for at := range n {
				for arg := -1; arg < n; arg++ {
					args := []int{1, 2, 3}[:n]
					args[at] = wrong
					hasNone(t, api.KeyT{Arg: arg, Base: 100}, args)
				}
			}
		}
	}
}

func TestKeyOfTooManyArguments(t *testing.T) {
	for n := 4; n < 9; n++ {
		for arg := -1; arg < n; arg++ {
			hasNone(t, api.KeyT{Arg: arg, Base: 5}, make([]int, n))
		}
	}
	hasNone(t, alone, make([]int, 256))
	hasNone(t, alone, []int{1, 2, 3, 100})
}

func TestKeyOfAny(t *testing.T) {
	rnd := rand.New(rand.NewSource(2))
	for range 50000 {
		args := make([]int, rnd.Intn(5))
		right := len(args) < 4
		for i := range args {
			args[i] = randomOf(rnd, 0, 1, 98, 99, rnd.Intn(100), rnd.Intn(100), rnd.Intn(104)-2)
			right = right && args[i] >= 0 && args[i] <= 99
		}
		k := api.KeyT{Arg: rnd.Intn(6) - 2, Base: randomOf(rnd, -1, 0, 900, 901, rnd.Intn(901), rnd.Intn(901))}
		if !right || !keyMayBe(k, len(args)) {
			hasNone(t, k, args)
		} else if k.Arg == -1 {
			hasKey(t, k, args, k.Base)
		} else {
			hasKey(t, k, args, k.Base+args[k.Arg])
		}
	}
}

// P9.2: Put.

// written tells what Put writes of a program.
func written(l []api.Instr) []uint64 {
	var w codes.Writer
	Put(&w, l)
	return w.Done()
}

// TestPutInNumbers holds words against such as were worked out by hand.
func TestPutInNumbers(t *testing.T) {
	for _, c := range []struct {
		x    api.Instr
		want []uint64
	}{
		{api.Instr{Op: 1, A: 3, K: first}, []uint64{1, 1, 3, 0, 0, 0, 5, 0, 0, 0}},
		{api.Instr{Op: 4, A: 2, K: api.KeyT{Arg: 2, Base: 7}, L: api.KeyT{Arg: -1, Base: 900}}, []uint64{1, 4, 2, 0, 0, 4, 7, 1, 900, 0}},
		{api.Instr{Op: 6, A: 1, B: 2, C: 3}, []uint64{1, 6, 1, 2, 3, 0, 0, 0, 0, 0}},
		{api.Instr{Op: 5, A: 1, X: -7}, []uint64{1, 5, 1, 0, 0, 0, 0, 0, 0, 13}},
		{api.Instr{Op: 8, A: 2, X: 4}, []uint64{1, 8, 2, 0, 0, 0, 0, 0, 0, 8}},
		{api.Instr{Op: 8, X: math.MinInt64}, []uint64{1, 8, 0, 0, 0, 0, 0, 0, 0, math.MaxUint64}},
		{api.Instr{Op: 8, X: math.MaxInt64}, []uint64{1, 8, 0, 0, 0, 0, 0, 0, 0, math.MaxUint64 - 1}},
		{api.Instr{Op: 10, A: 11, B: 12, C: 13, K: api.KeyT{Arg: 14, Base: 15}, L: api.KeyT{Arg: 16, Base: 17}, X: 18}, []uint64{1, 10, 11, 12, 13, 28, 15, 32, 17, 36}},
	} {
		if l := written([]api.Instr{c.x}); !slices.Equal(l, c.want) {
			t.Errorf("Put(%v): %d, not %d", c.x, l, c.want)
		}
	}
}

func TestPutOfHowMany(t *testing.T) {
	for n := range 12 {
		for _, x := range each() {
			if l := written(times(x, n)); !slices.Equal(l, wordsOf(times(x, n))) {
				t.Errorf("Put of %v %d times: %d", x, n, l)
			}
		}
	}
	if l := written(nil); !slices.Equal(l, []uint64{0}) {
		t.Error("Put of none:", l)
	}
}

// TestPutOfAny: of programs that may not be, too, it writes what a Writer's calls do.
func TestPutOfAny(t *testing.T) {
	rnd := rand.New(rand.NewSource(3))
	for range 20000 {
		l := good(rnd, rnd.Intn(4))
		if rnd.Intn(2) == 0 {
			i := rnd.Intn(len(l))
			l[i] = turned(rnd, l[i])
		}
		if w := written(l); !slices.Equal(w, wordsOf(l)) {
			t.Fatalf("Put(%v): %d, not %d", l, w, wordsOf(l))
		}
	}
}

func TestPutWritesBehind(t *testing.T) {
	var w codes.Writer
	w.Count(5)
	Put(&w, each()[:1])
	w.Flag(true)
	Put(&w, each()[4:6])
	want := slices.Concat([]uint64{5}, wordsOf(each()[:1]), []uint64{1}, wordsOf(each()[4:6]))
	if l := w.Done(); !slices.Equal(l, want) {
		t.Errorf("%d, not %d", l, want)
	}
}

func TestPutOfNoWriter(t *testing.T) {
	Put(nil, nil)
	Put(nil, each())
}

// P9.2: Get.

// reads sees to it that a program is read from words, and that those behind it are left.
func reads(t *testing.T, words []uint64, want []api.Instr, behind int) {
	t.Helper()
	r := codes.NewReader(words)
	if l := Get(r); !slices.Equal(l, want) || !r.Ok() || r.End() != (behind == 0) {
		t.Errorf("Get of %d: %v, %t, not %v", words, l, r.Ok(), want)
	}
	for i := range behind {
		if w := r.Signed(); w != unsigned(words[len(words)-behind+i]) || !r.Ok() {
			t.Errorf("behind a program of %d: %d", words, w)
		}
	}
	if !r.End() {
		t.Errorf("something is left of %d", words)
	}
}

// readsNone sees to it that no program is read from words, and that the reader isn't right from then on, however much is left.
func readsNone(t *testing.T, words []uint64) {
	t.Helper()
	for _, l := range [][]uint64{words, append(slices.Clone(words), make([]uint64, 90)...)} {
		if _, _, ok := programOf(l); ok {
			continue
		}
		r := codes.NewReader(l)
		if p := Get(r); len(p) != 0 || r.Ok() || r.End() {
			t.Errorf("Get of %d: %v, %t", l, p, r.Ok())
		}
		if p := Get(r); len(p) != 0 || r.Ok() || r.Count(9) != 0 || r.Signed() != 0 {
			t.Errorf("Get again of %d: %v, %t", l, p, r.Ok())
		}
	}
}

func TestGet(t *testing.T) {
	reads(t, []uint64{0}, nil, 0)
	reads(t, []uint64{0, 1, 1}, nil, 2)
	reads(t, []uint64{1, 1, 2, 3, 4, 5 * 2, 6, 1, 8, 9}, []api.Instr{{Op: 1, A: 2, B: 3, C: 4, K: api.KeyT{Arg: 5, Base: 6}, L: api.KeyT{Arg: -1, Base: 8}, X: -5}}, 0)
	for n := range 9 {
		for _, x := range each() {
			l := times(x, n)
			reads(t, wordsOf(l), l, 0)
			reads(t, append(wordsOf(l), 1, math.MaxUint64, 0), l, 3)
		}
	}
	reads(t, wordsOf(each()), each(), 0)
}

func TestGetOfX(t *testing.T) {
	for _, x := range someX {
		for _, op := range []int{api.OpSet, api.OpGuard} {
			l := []api.Instr{{Op: op, X: x}, {Op: op, A: 1, X: -1 - x}}
			reads(t, wordsOf(l), l, 0)
		}
	}
}

// TestGetOfMoreThanMayBe: words are read as far as they fit, whether the program may be or not.
func TestGetOfMoreThanMayBe(t *testing.T) {
	l := []api.Instr{{}, {Op: 255, A: 255, B: 255, C: 255, K: api.KeyT{Arg: 255, Base: 999}, L: api.KeyT{Arg: 255, Base: 999}, X: 1}, {Op: 3, A: 9, B: 9, C: 9, K: api.KeyT{Arg: -1, Base: 901}, L: api.KeyT{Arg: -1, Base: 901}, X: -1}}
	reads(t, wordsOf(l), l, 0)
}

// TestGetOfEachWord tries each word of each instruction at its edges, all others as they may be.
func TestGetOfEachWord(t *testing.T) {
	tried := []uint64{0, 1, 2, 3, 5, 254, 255, 256, 257, 509, 510, 511, 512, 513, 514, 998, 999, 1000, 1001, 1 << 16, 1 << 31, 1 << 32, 1<<32 + 1, 1<<32 + 2, 1 << 33, 1 << 63, 1<<63 + 1, 1<<63 + 2, math.MaxUint64 - 1, math.MaxUint64}
	for _, at := range []int{0, 1, 7} {
		for place := range 9 {
			for _, w := range tried {
				words := wordsOf(each())
				words[1+9*at+place] = w
				want, _, ok := programOf(words)
				if ok != fitsIn(place, w) {
					t.Fatalf("the model of %d", words)
				}
				if ok {
					reads(t, words, want, 0)
				} else {
					readsNone(t, words)
				}
			}
		}
	}
}

// TestGetAtTheEdges says the same in numbers: the greatest that is read, and the least that isn't.
func TestGetAtTheEdges(t *testing.T) {
	one := func(place int, w uint64) []uint64 {
		l := make([]uint64, 10)
		l[0], l[1+place] = 1, w
		return l
	}
	for place, edge := range []uint64{255, 255, 255, 255, 510, 999, 510, 999} {
		step := uint64(1)
		if edge == 510 {
			step = 2
		}
		r := codes.NewReader(one(place, edge))
		if l := Get(r); len(l) != 1 || !r.End() {
			t.Errorf("%d at %d: %v", edge, place, l)
		}
		readsNone(t, one(place, edge+step))
	}
	for _, place := range []int{4, 6} {
		r := codes.NewReader(one(place, 1))
		if l := Get(r); len(l) != 1 || l[0].K.Arg+l[0].L.Arg != -1 || !r.End() {
			t.Errorf("an Arg of -1 at %d: %v", place, l)
		}
		readsNone(t, one(place, 3))
		readsNone(t, one(place, signed(math.MinInt64)))
		readsNone(t, one(place, signed(math.MaxInt64)))
		readsNone(t, one(place, signed(1<<32)))
		readsNone(t, one(place, signed(-1<<32-1)))
	}
}

func TestGetOfHowMany(t *testing.T) {
	for _, n := range []uint64{9, 10, 16, 255, 256, 257, 1 << 32, 1<<32 + 1, 1 << 63, 1<<63 + 1, math.MaxUint64} {
		for _, x := range each() {
			words := wordsOf(times(x, 9))
			words[0] = n
			readsNone(t, words)
		}
		readsNone(t, []uint64{n})
		readsNone(t, append([]uint64{n}, make([]uint64, 200)...))
	}
	reads(t, append([]uint64{8}, make([]uint64, 72)...), make([]api.Instr, 8), 0)
}

func TestGetOfWordsThatEndTooEarly(t *testing.T) {
	for n := 1; n <= 8; n++ {
		words := wordsOf(each()[8-n:])
		for end := range words {
			r := codes.NewReader(words[:end])
			if l := Get(r); len(l) != 0 || r.Ok() || r.End() {
				t.Errorf("Get of the first %d words of %d: %v, %t", end, words, l, r.Ok())
			}
		}
	}
	readsNone(t, nil)
}

func TestGetOfSomeOneBehindTheOther(t *testing.T) {
	r := codes.NewReader(slices.Concat([]uint64{7}, wordsOf(each()), wordsOf(nil), wordsOf(each()[:2]), []uint64{1}))
	if n := r.Count(9); n != 7 {
		t.Fatal(n)
	}
	for i, want := range [][]api.Instr{each(), nil, each()[:2]} {
		if l := Get(r); !slices.Equal(l, want) || !r.Ok() || r.End() {
			t.Errorf("the program %d: %v", i, l)
		}
	}
	if !r.Flag() || !r.End() {
		t.Error("the flag behind")
	}
}

func TestGetOfAReaderThatIsNotRight(t *testing.T) {
	for name, spoil := range map[string]func(r *codes.Reader){
		"a flag":  func(r *codes.Reader) { r.Flag() },
		"a count": func(r *codes.Reader) { r.Count(1) },
		"words":   func(r *codes.Reader) { r.Words(1) },
	} {
		r := codes.NewReader(append([]uint64{2}, wordsOf(each())...))
		spoil(r)
		if l := Get(r); len(l) != 0 || r.Ok() || r.End() {
			t.Errorf("%s: %v, %t", name, l, r.Ok())
		}
	}
}

func TestGetOfNoReader(t *testing.T) {
	if l := Get(nil); len(l) != 0 {
		t.Error("of nil:", l)
	}
	var r codes.Reader
	if l := Get(&r); len(l) != 0 || r.Ok() {
		t.Error("of a zero value:", l)
	}
}

// TestGetOfAny holds Get of words that were spoilt somewhere, or cut, against the model.
func TestGetOfAny(t *testing.T) {
	rnd := rand.New(rand.NewSource(4))
	both := [2]int{}
	for range 50000 {
		words := wordsOf(good(rnd, rnd.Intn(4)))
		for range rnd.Intn(3) {
			words[rnd.Intn(len(words))] = rnd.Uint64() >> randomOf(rnd, rnd.Intn(64), 48+rnd.Intn(16), 56)
		}
		if rnd.Intn(8) == 0 {
			words = words[:rnd.Intn(len(words)+1)]
		}
		for range rnd.Intn(3) {
			words = append(words, rnd.Uint64())
		}
		if want, takes, ok := programOf(words); ok {
			reads(t, words, want, len(words)-takes)
			both[1]++
		} else {
			readsNone(t, words)
			both[0]++
		}
	}
	if min(both[0], both[1]) < 5000 {
		t.Error("what is tried is of one sort:", both)
	}
}

// P9.3

func TestText(t *testing.T) {
	third := api.KeyT{Arg: 2, Base: 0}
	for _, c := range []struct {
		x    api.Instr
		want string
	}{
		{api.Instr{Op: 1, A: 2, K: first}, "get r2 5+a0"},
		{api.Instr{Op: 1, A: 0, K: alone}, "get r0 900"},
		{api.Instr{Op: 2, A: 3, K: third}, "put 0+a2 r3"},
		{api.Instr{Op: 2, A: 1, K: alone}, "put 900 r1"},
		{api.Instr{Op: 3, K: first}, "delete 5+a0"},
		{api.Instr{Op: 3, K: alone}, "delete 900"},
		{api.Instr{Op: 4, A: 1, K: first, L: third}, "scan r1 5+a0 0+a2"},
		{api.Instr{Op: 4, A: 1, K: first, L: alone}, "scan r1 5+a0 900"},
		{api.Instr{Op: 4, A: 2, K: alone, L: first}, "scan r2 900 5+a0"},
		{api.Instr{Op: 4, A: 3, K: api.KeyT{Arg: -1, Base: 7}, L: alone}, "scan r3 7 900"},
		{api.Instr{Op: 5, A: 2, X: -7}, "set r2 -7"},
		{api.Instr{Op: 5, A: 0, X: 0}, "set r0 0"},
		{api.Instr{Op: 5, A: 3, X: math.MaxInt64}, "set r3 9223372036854775807"},
		{api.Instr{Op: 5, A: 3, X: math.MinInt64}, "set r3 -9223372036854775808"},
		{api.Instr{Op: 6, A: 1, B: 2, C: 3}, "add r1 r2 r3"},
		{api.Instr{Op: 6}, "add r0 r0 r0"},
		{api.Instr{Op: 7, A: 3, B: 1, C: 2}, "sub r3 r1 r2"},
		{api.Instr{Op: 7}, "sub r0 r0 r0"},
		{api.Instr{Op: 8, A: 1, X: 4}, "guard r1 4"},
		{api.Instr{Op: 8, A: 2, X: -1}, "guard r2 -1"},
		{api.Instr{Op: 8, A: 0, X: math.MinInt64}, "guard r0 -9223372036854775808"},
	} {
		if s := Text(c.x); s != c.want || textOf(c.x) != c.want {
			t.Errorf("Text(%v): %q, not %q (the model: %q)", c.x, s, c.want, textOf(c.x))
		}
	}
}

func TestTextOfAnotherOp(t *testing.T) {
	for _, op := range append([]int{-8, -1, 0, 9, 10, 255, 256, 257, 1<<32 + 1}, far...) {
		for _, x := range append(each(), api.Instr{}) {
			x.Op = op
			if s := Text(x); s != "?" {
				t.Errorf("Text(%v): %q", x, s)
			}
		}
	}
}

// TestTextOfWhatMayNotBe: an instruction of an Op is told, whether it may be or not, and without what its Op hasn't.
func TestTextOfWhatMayNotBe(t *testing.T) {
	for _, x := range each() {
		want := Text(x)
		y := unlike(x)
		if s := Text(y); s != want {
			t.Errorf("Text(%v): %q, not %q", y, s, want)
		}
	}
	for want, x := range map[string]api.Instr{
		"get r-1 -5":             {Op: 1, A: -1, K: api.KeyT{Arg: -2, Base: -5}},
		"get r256 1000+a255":     {Op: 1, A: 256, K: api.KeyT{Arg: 255, Base: 1000}},
		"delete 3":               {Op: 3, K: api.KeyT{Arg: math.MinInt, Base: 3}},
		"scan r4 -1+a3 901":      {Op: 4, A: 4, K: api.KeyT{Arg: 3, Base: -1}, L: api.KeyT{Arg: -99, Base: 901}},
		"add r-9 r-8 r7":         {Op: 6, A: -9, B: -8, C: 7},
		"put 4294967296+a10 r10": {Op: 2, A: 10, K: api.KeyT{Arg: 10, Base: 1 << 32}},
	} {
		if s := Text(x); s != want {
			t.Errorf("Text(%v): %q, not %q", x, s, want)
		}
	}
}

func TestTextOfAny(t *testing.T) {
	rnd := rand.New(rand.NewSource(5))
	for range 20000 {
		x := goodInstr(rnd, rnd.Intn(4))
		if rnd.Intn(2) == 0 {
			x = turned(rnd, x)
		}
		if s := Text(x); s != textOf(x) {
			t.Fatalf("Text(%v): %q, not %q", x, s, textOf(x))
		}
	}
}

// P9.4

// TestReadFromItsWords: a program that may be is read from its words, whatever stands ahead of them and behind.
func TestReadFromItsWords(t *testing.T) {
	rnd := rand.New(rand.NewSource(6))
	for range 20000 {
		args := rnd.Intn(4)
		var all [][]api.Instr
		var w codes.Writer
		w.Signed(-5)
		for range 1 + rnd.Intn(3) {
			l := good(rnd, args)
			if !May(l, args) {
				t.Fatalf("May(%v, %d)", l, args)
			}
			all = append(all, l)
			Put(&w, l)
		}
		w.Text("ab")
		r := codes.NewReader(w.Done())
		if x := r.Signed(); x != -5 {
			t.Fatal(x)
		}
		for _, want := range all {
			if l := Get(r); !slices.Equal(l, want) || !r.Ok() {
				t.Fatalf("%v is read as %v", want, l)
			}
		}
		if s := r.Text(); s != "ab" || !r.End() {
			t.Fatal("the text behind:", s)
		}
	}
}

// TestReadFromItsWordsAtTheEdges: the same, of each Op with the least and the greatest of all that it has.
func TestReadFromItsWordsAtTheEdges(t *testing.T) {
	for args := range 4 {
		for op := 1; op <= 8; op++ {
			for _, n := range []int{0, 3} {
				for _, k := range []api.KeyT{{Arg: -1}, {Arg: -1, Base: 900}, {Arg: args - 1}, {Arg: args - 1, Base: 900}} {
					for _, x := range someX {
						full := api.Instr{A: n, B: 3 - n, C: n, K: k, L: api.KeyT{Arg: -1, Base: 900 - k.Base}, X: x}
						l := times(only(full, op), 8)
						may(t, l, args, true)
						reads(t, written(l), l, 0)
						reads(t, written(l[:1]), l[:1], 0)
					}
				}
			}
		}
	}
}

// What is handed in is left as it was, its spare room too, and an answer is new memory.

func TestProgramsAreLeftAsTheyWere(t *testing.T) {
	for n := range 9 {
		whole := append(each(), api.Instr{Op: 9, A: -1, K: api.KeyT{Arg: -9}})
		was := slices.Clone(whole)
		l := whole[:n]
		May(l, 1)
		May(l, -1)
		Sure(l)
		var w codes.Writer
		Put(&w, l)
		if !slices.Equal(whole, was) {
			t.Fatalf("%v was changed to %v", was, whole)
		}
		for i := range whole {
			whole[i] = api.Instr{Op: 7, A: 3}
		}
		if words := w.Done(); !slices.Equal(words, wordsOf(was[:n])) {
			t.Errorf("%v is kept: %d", was[:n], words)
		}
	}
}

func TestArgumentsAreLeftAsTheyWere(t *testing.T) {
	for _, was := range [][]int{{1, 2, 3, 4}, {-1, 100, 99, 0}} {
		for n := range 5 {
			args := slices.Clone(was)
			for arg := -2; arg < 5; arg++ {
				Key(api.KeyT{Arg: arg, Base: 900}, args[:n])
			}
			if !slices.Equal(args, was) {
				t.Errorf("%d was changed to %d", was, args)
			}
		}
	}
}

func TestGetSharesNoMemory(t *testing.T) {
	words := slices.Concat(wordsOf(each()), wordsOf(each()[:7]))
	was := slices.Clone(words)
	r, other := codes.NewReader(words), codes.NewReader(words)
	a := Get(r)
	for i := range a {
		a[i] = api.Instr{Op: 99}
	}
	a = append(a, api.Instr{Op: 98})
	b := Get(r)
	if !slices.Equal(b, each()[:7]) || !r.End() {
		t.Errorf("the next program: %v", b)
	}
	b = append(b, api.Instr{Op: 97})
	if l := Get(other); !slices.Equal(l, each()) {
		t.Errorf("the other reader's program: %v", l)
	}
	for i := range b {
		b[i] = api.Instr{Op: 96}
	}
	if a[0].Op != 99 || a[8].Op != 98 || !slices.Equal(words, was) {
		t.Errorf("what was answered, or handed in: %v, %d", a, words)
	}
}

// TestTheSameAgain: nothing is kept from call to call.
func TestTheSameAgain(t *testing.T) {
	for range 3 {
		may(t, each(), 1, true)
		may(t, nil, 1, false)
		may(t, each(), 0, false)
		hasKey(t, first, []int{99}, 104)
		hasNone(t, first, nil)
		readsNone(t, []uint64{9})
		reads(t, wordsOf(each()), each(), 0)
		if l := written(each()); !slices.Equal(l, wordsOf(each())) || Sure(each()) || !Sure(each()[:5]) {
			t.Error("Put, Sure:", l)
		}
	}
}
