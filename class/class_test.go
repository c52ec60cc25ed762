package class

import (
	"fmt"
	"math"
	"math/rand"
	"slices"
	"strings"
	"testing"

	"gimmal/api"
	"gimmal/codes"
	"gimmal/prog"
)

// The model: what the document's words say, done plainly, part by part, word by word, key by key.

// keyMayBe tells whether a template may be for so many arguments.
func keyMayBe(k api.KeyT, args int) bool {
	return k.Arg >= -1 && k.Arg < args && k.Base >= 0 && k.Base <= 900
}

// instrMayBe tells whether an instruction may be for so many arguments.
func instrMayBe(x api.Instr, args int) bool {
	in := func(n int) bool { return n >= 0 && n <= 3 }
	no := api.KeyT{}
	switch x.Op {
	case 1, 2:
		return in(x.A) && keyMayBe(x.K, args) && x.B == 0 && x.C == 0 && x.L == no && x.X == 0
	case 3:
		return keyMayBe(x.K, args) && x.A == 0 && x.B == 0 && x.C == 0 && x.L == no && x.X == 0
	case 4:
		return in(x.A) && keyMayBe(x.K, args) && keyMayBe(x.L, args) && x.B == 0 && x.C == 0 && x.X == 0
	case 6, 7:
		return in(x.A) && in(x.B) && in(x.C) && x.K == no && x.L == no && x.X == 0
	case 5, 8:
		return in(x.A) && x.B == 0 && x.C == 0 && x.K == no && x.L == no
	}
	return false
}

// codeMayBe tells whether a program may be for so many arguments.
func codeMayBe(l []api.Instr, args int) bool {
	for _, x := range l {
		if !instrMayBe(x, args) {
			return false
		}
	}
	return len(l) >= 1 && len(l) <= 8
}

// codeMayFail tells whether a program has an Add, a Sub or a Guard.
func codeMayFail(l []api.Instr) bool {
	for _, x := range l {
		if x.Op > 5 && x.Op < 9 {
			return true
		}
	}
	return false
}

// footMayBe tells whether a footprint may be for so many arguments.
func footMayBe(l []api.SpanT, args int) bool {
	for _, s := range l {
		if !keyMayBe(s.Lo, args) || !keyMayBe(s.Hi, args) {
			return false
		}
	}
	return len(l) <= 4
}

// mayBe tells whether a class may be.
func mayBe(c api.Class) bool {
	if len(c.Name) == 0 || len(c.Name) > 16 || c.Args < 0 || c.Args > 3 {
		return false
	}
	if len(c.Steps) == 0 || len(c.Steps) > 4 || len(c.Steps) != len(c.Comps) {
		return false
	}
	for _, s := range c.Steps {
		if !codeMayBe(s.Code, c.Args) || !footMayBe(s.Foot, c.Args) {
			return false
		}
	}
	for _, s := range c.Comps {
		if len(s.Code) > 0 && (!codeMayBe(s.Code, c.Args) || codeMayFail(s.Code)) || !footMayBe(s.Foot, c.Args) {
			return false
		}
	}
	return true
}

// signed tells a number with a sign as a word, modulo 2^64.
func signed(x int) uint64 {
	if x >= 0 {
		return 2 * uint64(x)
	}
	return 2*uint64(-1-x) + 1
}

// count tells a count as a word: 0 of what is below that.
func count(n int) uint64 {
	if n < 0 {
		return 0
	}
	return uint64(n)
}

// flag tells a flag as a word.
func flag(b bool) uint64 {
	if b {
		return 1
	}
	return 0
}

// textWords tells a text's words.
func textWords(s string) []uint64 {
	if len(s) > 64 {
		s = s[:64]
	}
	all := []uint64{uint64(len(s))}
	for i := 0; i < len(s); i += 8 {
		w := uint64(0)
		for k := i; k < i+8 && k < len(s); k++ {
			w += uint64(s[k]) << (8 * (k - i))
		}
		all = append(all, w)
	}
	return all
}

// stepWords tells a step's words.
func stepWords(s api.Step) []uint64 {
	all := []uint64{count(len(s.Code))}
	for _, x := range s.Code {
		all = append(all, count(x.Op), count(x.A), count(x.B), count(x.C))
		all = append(all, signed(x.K.Arg), count(x.K.Base), signed(x.L.Arg), count(x.L.Base), signed(int(x.X)))
	}
	all = append(all, count(len(s.Foot)))
	for _, f := range s.Foot {
		all = append(all, signed(f.Lo.Arg), count(f.Lo.Base), signed(f.Hi.Arg), count(f.Hi.Base), flag(f.Write))
	}
	return all
}

// wordsOf tells a class' words; a step without its Comp, or a Comp without its step, has none.
func wordsOf(c api.Class) []uint64 {
	all := append(textWords(c.Name), count(c.Args), count(len(c.Steps)))
	for i := 0; i < len(c.Steps) && i < len(c.Comps); i++ {
		all = append(all, stepWords(c.Steps[i])...)
		all = append(all, stepWords(c.Comps[i])...)
	}
	return append(all, flag(c.Resume))
}

// along goes along words; once something isn't right in them it tells zeros.
type along struct {
	rest  []uint64
	wrong bool
}

// word tells the next word, if it suits.
func (a *along) word(suits func(w uint64) bool) uint64 {
	if a.wrong || len(a.rest) == 0 || !suits(a.rest[0]) {
		a.wrong = true
		return 0
	}
	w := a.rest[0]
	a.rest = a.rest[1:]
	return w
}

// upTo tells the next word, if it is at most most.
func (a *along) upTo(most uint64) int { return int(a.word(func(w uint64) bool { return w <= most })) }

// any tells the next word as a number with a sign.
func (a *along) any() int {
	w := a.word(func(uint64) bool { return true })
	if w%2 == 0 {
		return int(w / 2)
	}
	return -1 - int(w/2)
}

// template tells the next template: its Arg is -1, or from 0 to 255.
func (a *along) template() api.KeyT {
	arg := a.any()
	a.wrong = a.wrong || arg < -1 || arg > 255
	return api.KeyT{Arg: arg, Base: a.upTo(999)}
}

// text tells the next text.
func (a *along) text() string {
	n := a.upTo(64)
	var b []byte
	for range (n + 7) / 8 {
		w := a.word(func(uint64) bool { return true })
		for i := range 8 {
			b = append(b, byte(w>>(8*i)))
		}
	}
	for _, c := range b[min(n, len(b)):] {
		a.wrong = a.wrong || c != 0
	}
	return string(b[:min(n, len(b))])
}

// step tells the next step.
func (a *along) step() api.Step {
	var s api.Step
	for range a.upTo(8) {
		x := api.Instr{Op: a.upTo(255), A: a.upTo(255), B: a.upTo(255), C: a.upTo(255)}
		x.K, x.L = a.template(), a.template()
		x.X = int64(a.any())
		s.Code = append(s.Code, x)
	}
	for range a.upTo(4) {
		f := api.SpanT{Lo: a.template(), Hi: a.template()}
		f.Write = a.upTo(1) == 1
		s.Foot = append(s.Foot, f)
	}
	return s
}

// classOf tells the class that stands at the beginning of words, how many words it takes, and whether there is one that may be.
func classOf(l []uint64) (api.Class, int, bool) {
	a := along{rest: l}
	c := api.Class{Name: a.text()}
	c.Args = a.upTo(3)
	for range a.upTo(4) {
		c.Steps = append(c.Steps, a.step())
		c.Comps = append(c.Comps, a.step())
	}
	c.Resume = a.upTo(1) == 1
	if a.wrong || !mayBe(c) {
		return api.Class{}, 0, false
	}
	return c, len(l) - len(a.rest), true
}

// plainOf tells the keys of some spans of keys, key by key, as a plain list.
func plainOf(l []api.Span) []api.Span {
	var set [1002]bool
	for _, s := range l {
		for k := s.Lo; k <= s.Hi; k++ {
			set[k] = true
		}
	}
	var all []api.Span
	lo := -1
	for k, in := range set {
		if in && lo < 0 {
			lo = k
		}
		if !in && lo >= 0 {
			all = append(all, api.Span{Lo: lo, Hi: k - 1})
			lo = -1
		}
	}
	return all
}

// keysOf tells the plain lists of what a class' steps read and write, for arguments.
func keysOf(c api.Class, args []int) (reads, writes []api.Span) {
	if !mayBe(c) || len(args) != c.Args {
		return nil, nil
	}
	for _, a := range args {
		if a < 0 || a > 99 {
			return nil, nil
		}
	}
	key := func(k api.KeyT) int {
		if k.Arg == -1 {
			return k.Base
		}
		return k.Base + args[k.Arg]
	}
	for _, step := range c.Steps {
		for _, f := range step.Foot {
			s := api.Span{Lo: key(f.Lo), Hi: key(f.Hi)}
			reads = append(reads, s)
			if f.Write {
				writes = append(writes, s)
			}
		}
	}
	return plainOf(reads), plainOf(writes)
}

// textOf tells a class in lines.
func textOf(c api.Class) string {
	all := fmt.Sprintf("class %s %d\n", c.Name, c.Args)
	for i := 0; i < len(c.Steps) && i < len(c.Comps); i++ {
		all += fmt.Sprintf("step %d\n", i+1)
		for _, x := range c.Steps[i].Code {
			all += "  " + prog.Text(x) + "\n"
		}
		all += fmt.Sprintf("undo %d\n", i+1)
		for _, x := range c.Comps[i].Code {
			all += "  " + prog.Text(x) + "\n"
		}
	}
	return all
}

// whole tells all that a class has; nil and empty are one and the same in it.
func whole(c api.Class) string {
	return fmt.Sprintf("%+q %d %v %v %t", c.Name, c.Args, c.Steps, c.Comps, c.Resume)
}

// What is tried.

// far has numbers at the ends of what there is.
var far = []int{math.MinInt, math.MinInt + 1, -1 << 32, 1<<32 - 1, 1 << 32, 1<<32 + 1, math.MaxInt - 1, math.MaxInt}

// key tells a template.
func key(arg, base int) api.KeyT { return api.KeyT{Arg: arg, Base: base} }

// from tells a span that is read alone, of keys that hang on no argument.
func from(lo, hi int) api.SpanT { return api.SpanT{Lo: key(-1, lo), Hi: key(-1, hi)} }

// written tells a span that is written, too.
func written(s api.SpanT) api.SpanT {
	s.Write = true
	return s
}

// spans tells a list of spans: each two numbers are one.
func spans(l ...int) []api.Span {
	var all []api.Span
	for i := 0; i < len(l); i += 2 {
		all = append(all, api.Span{Lo: l[i], Hi: l[i+1]})
	}
	return all
}

// Instructions of which the first three can't fail, and the others can.
var (
	get   = api.Instr{Op: api.OpGet, A: 1, K: api.KeyT{Arg: 0, Base: 5}}
	set   = api.Instr{Op: api.OpSet, A: 2, X: -7}
	del   = api.Instr{Op: api.OpDelete, K: api.KeyT{Arg: -1, Base: 9}}
	add   = api.Instr{Op: api.OpAdd, A: 1, B: 2, C: 3}
	sub   = api.Instr{Op: api.OpSub, A: 3, B: 1, C: 2}
	guard = api.Instr{Op: api.OpGuard, A: 2, X: 4}
)

// does tells a step of instructions without a footprint.
func does(l ...api.Instr) api.Step { return api.Step{Code: l} }

// at tells a step of one instruction that may be for any number of arguments, with a footprint.
func at(l ...api.SpanT) api.Step { return api.Step{Code: []api.Instr{set}, Foot: l} }

// pay tells a class of three steps and two arguments, which has something of each sort.
func pay() api.Class {
	return api.Class{
		Name: "pay", Args: 2, Resume: true,
		Steps: []api.Step{
			{Code: []api.Instr{get, guard}, Foot: []api.SpanT{{Lo: key(0, 5), Hi: key(0, 7)}, written(from(20, 29))}},
			{Code: []api.Instr{set, add, sub}},
			{Code: []api.Instr{del}, Foot: []api.SpanT{{Lo: key(1, 900), Hi: key(1, 900), Write: true}}},
		},
		Comps: []api.Step{
			{},
			{Code: []api.Instr{del, set}, Foot: []api.SpanT{from(40, 45)}},
			{Code: []api.Instr{get}, Foot: []api.SpanT{written(from(1, 2)), {Lo: key(-1, 3), Hi: key(1, 3)}}},
		},
	}
}

// of tells a class of so many arguments, of steps without anything to compensate them.
func of(args int, steps ...api.Step) api.Class {
	return api.Class{Name: "a", Args: args, Steps: steps, Comps: make([]api.Step, len(steps))}
}

// compensated tells a class of so many arguments, of as many steps as Comps, which are these.
func compensated(args int, comps ...api.Step) api.Class {
	return api.Class{Name: "a", Args: args, Steps: slices.Repeat([]api.Step{does(set)}, len(comps)), Comps: comps}
}

// changed tells pay with a change.
func changed(change func(c *api.Class)) api.Class {
	c := pay()
	change(&c)
	return c
}

// randomOf tells one of some things.
func randomOf[T any](rnd *rand.Rand, l ...T) T { return l[rnd.Intn(len(l))] }

// goodKey tells any template that may be for so many arguments.
func goodKey(rnd *rand.Rand, args int) api.KeyT {
	return key(rnd.Intn(args+1)-1, randomOf(rnd, 0, 1, 899, 900, rnd.Intn(901), rnd.Intn(50)))
}

// goodInstr tells any instruction of an Op that may be for so many arguments.
func goodInstr(rnd *rand.Rand, op, args int) api.Instr {
	a, k := rnd.Intn(4), goodKey(rnd, args)
	switch op {
	case api.OpGet, api.OpPut:
		return api.Instr{Op: op, A: a, K: k}
	case api.OpDelete:
		return api.Instr{Op: op, K: k}
	case api.OpScan:
		return api.Instr{Op: op, A: a, K: k, L: goodKey(rnd, args)}
	case api.OpAdd, api.OpSub:
		return api.Instr{Op: op, A: a, B: rnd.Intn(4), C: rnd.Intn(4)}
	}
	return api.Instr{Op: op, A: a, X: int64(rnd.Uint64())}
}

// goodStep tells any step of least to 8 instructions, with Ops up to one, that may be for so many arguments.
func goodStep(rnd *rand.Rand, least, ops, args int) api.Step {
	var s api.Step
	for range least + rnd.Intn(9-least) {
		s.Code = append(s.Code, goodInstr(rnd, 1+rnd.Intn(ops), args))
	}
	for range rnd.Intn(5) {
		f := api.SpanT{Lo: goodKey(rnd, args), Hi: goodKey(rnd, args), Write: rnd.Intn(2) == 0}
		if rnd.Intn(2) == 0 {
			f.Hi.Base = min(900, f.Lo.Base+rnd.Intn(30))
		}
		s.Foot = append(s.Foot, f)
	}
	return s
}

// good tells any class that may be.
func good(rnd *rand.Rand) api.Class {
	name := make([]byte, randomOf(rnd, 1, 2, 8, 9, 15, 16, 1+rnd.Intn(16)))
	rnd.Read(name)
	c := api.Class{Name: string(name), Args: rnd.Intn(4), Resume: rnd.Intn(2) == 0}
	for range 1 + rnd.Intn(4) {
		c.Steps = append(c.Steps, goodStep(rnd, 1, 8, c.Args))
		c.Comps = append(c.Comps, goodStep(rnd, 0, 5, c.Args))
	}
	return c
}

// goodArgs tells any so many arguments.
func goodArgs(rnd *rand.Rand, n int) []int {
	var l []int
	for range n {
		l = append(l, randomOf(rnd, 0, 1, 98, 99, rnd.Intn(100)))
	}
	return l
}

// turns tells ways to change something in a class of one step or more; behind most of them it may not be any more.
func turns(rnd *rand.Rand) []func(c *api.Class) {
	n := randomOf(rnd, -2, -1, 0, 1, 2, 3, 4, 5, 8, 9, 900, 901, 999, 1000, randomOf(rnd, far...))
	side := func(c *api.Class) *api.Step { return &randomOf(rnd, c.Steps, c.Comps)[rnd.Intn(len(c.Comps))] }
	return []func(c *api.Class){
		func(c *api.Class) { c.Name = strings.Repeat("x", randomOf(rnd, 0, 1, 16, 17, 63, 64, 65, 80)) },
		func(c *api.Class) { c.Args = n },
		func(c *api.Class) { c.Args = rnd.Intn(4) },
		func(c *api.Class) { c.Resume = !c.Resume },
		func(c *api.Class) { c.Steps, c.Comps = c.Comps, c.Steps },
		func(c *api.Class) { c.Steps, c.Comps = append(c.Steps, *side(c)), append(c.Comps, api.Step{}) },
		func(c *api.Class) { *side(c) = api.Step{} },
		func(c *api.Class) { *side(c) = goodStep(rnd, 0, 8, 3) },
		func(c *api.Class) {
			s := side(c)
			s.Code = append(s.Code, goodInstr(rnd, 1+rnd.Intn(8), 3))
		},
		func(c *api.Class) {
			s := side(c)
			s.Foot = append(s.Foot, from(1, n))
		},
		func(c *api.Class) {
			s := side(c)
			s.Code = append(s.Code, set)
			x := &s.Code[rnd.Intn(len(s.Code))]
			*randomOf(rnd, &x.Op, &x.A, &x.B, &x.C, &x.K.Arg, &x.K.Base, &x.L.Arg, &x.L.Base) = n
		},
		func(c *api.Class) {
			s := side(c)
			s.Foot = append(s.Foot, from(1, 2))
			f := &s.Foot[rnd.Intn(len(s.Foot))]
			*randomOf(rnd, &f.Lo.Arg, &f.Lo.Base, &f.Hi.Arg, &f.Hi.Base) = n
		},
	}
}

// turned tells any class, near those that may be: of some of them one thing is changed.
func turned(rnd *rand.Rand) api.Class {
	c := good(rnd)
	if rnd.Intn(3) > 0 {
		randomOf(rnd, turns(rnd)...)(&c)
	}
	return c
}

// uneven tells any class, near those that may be, of which there may be more steps than Comps, or fewer.
func uneven(rnd *rand.Rand) api.Class {
	c := turned(rnd)
	c.Steps = c.Steps[:rnd.Intn(len(c.Steps)+1)]
	c.Comps = c.Comps[:rnd.Intn(len(c.Comps)+1)]
	return c
}

// balance counts how often something was so, and how often not.
type balance [2]int

// add counts one.
func (b *balance) add(so bool) { b[flag(so)]++ }

// held sees to it that both came about often enough.
func (b *balance) held(t *testing.T, least int) {
	t.Helper()
	if min(b[0], b[1]) < least {
		t.Error("what is tried is of one sort:", *b)
	}
}

// P11.1: May.

// may sees to it that a class may be, or may not, as the model says too.
func may(t *testing.T, c api.Class, want bool) {
	t.Helper()
	if mayBe(c) != want {
		t.Fatalf("the model of %s", whole(c))
	}
	if May(c) != want {
		t.Errorf("May(%s): %t", whole(c), !want)
	}
}

func TestMay(t *testing.T) {
	may(t, pay(), true)
	may(t, api.Class{}, false)
	may(t, api.Class{Name: "a"}, false)
	may(t, api.Class{Name: "a", Steps: []api.Step{}, Comps: []api.Step{}}, false)
	// The chapter's example: one step without a Comp's Code.
	may(t, of(0, does(set)), true)
	may(t, api.Class{Name: "a", Steps: []api.Step{{Code: []api.Instr{set}, Foot: []api.SpanT{}}}, Comps: []api.Step{{Code: []api.Instr{}, Foot: []api.SpanT{}}}}, true)
	for _, resume := range []bool{false, true} {
		may(t, changed(func(c *api.Class) { c.Resume = resume }), true)
	}
}

// TestMayOfNames: bytes are counted, whatever they are.
func TestMayOfNames(t *testing.T) {
	for n := range 300 {
		for _, s := range []string{"x", "\x00", "\xff", " ", "\n"} {
			may(t, changed(func(c *api.Class) { c.Name = strings.Repeat(s, n) }), n >= 1 && n <= 16)
		}
		may(t, changed(func(c *api.Class) { c.Name = strings.Repeat("\u00e9", n) }), n >= 1 && n <= 8)
		may(t, changed(func(c *api.Class) { c.Name = strings.Repeat("\u20ac", n) + "x" }), n <= 5)
	}
	may(t, changed(func(c *api.Class) { c.Name = "\xff\x00\x80 \n\t-+0\x7f\"\\'~\xc3\x28" }), true)
}

func TestMayOfArguments(t *testing.T) {
	for _, n := range append([]int{-3, -2, -1, 0, 1, 2, 3, 4, 5, 7, 8, 255, 256}, far...) {
		may(t, of(n, does(set)), n >= 0 && n <= 3)
		may(t, changed(func(c *api.Class) { c.Args = n }), n == 2 || n == 3)
	}
}

// TestMayOfHowMany tries each number of steps with each number of Comps.
func TestMayOfHowMany(t *testing.T) {
	for n := range 10 {
		for m := range 10 {
			for _, comp := range []api.Step{{}, does(del), at(from(1, 2))} {
				c := api.Class{Name: "a", Steps: slices.Repeat([]api.Step{does(guard)}, n), Comps: slices.Repeat([]api.Step{comp}, m)}
				may(t, c, n == m && n >= 1 && n <= 4)
			}
		}
	}
	may(t, compensated(0, make([]api.Step, 256)...), false)
	may(t, compensated(0, make([]api.Step, 257)...), false)
}

// eachPlace puts a step at each place of classes of 1 to 4 steps, once as a step, once as a Comp.
func eachPlace(args int, s api.Step, try func(asStep, asComp api.Class)) {
	for n := 1; n <= 4; n++ {
		for i := range n {
			a, b := of(args, slices.Repeat([]api.Step{does(set)}, n)...), compensated(args, make([]api.Step, n)...)
			a.Steps[i], b.Comps[i] = s, s
			try(a, b)
		}
	}
}

// placed sees to it that a step may be, or may not, as a step and as a Comp, wherever it stands.
func placed(t *testing.T, args int, s api.Step, asStep, asComp bool) {
	t.Helper()
	eachPlace(args, s, func(a, b api.Class) {
		t.Helper()
		may(t, a, asStep)
		may(t, b, asComp)
	})
}

// TestMayOfCodes: how many instructions there are.
func TestMayOfCodes(t *testing.T) {
	placed(t, 0, api.Step{}, false, true)
	placed(t, 0, api.Step{Code: []api.Instr{}, Foot: []api.SpanT{}}, false, true)
	placed(t, 0, at(from(1, 2)), true, true)
	placed(t, 0, api.Step{Foot: []api.SpanT{from(1, 2)}}, false, true)
	for n := range 20 {
		placed(t, 0, does(slices.Repeat([]api.Instr{set}, n)...), n >= 1 && n <= 8, n <= 8)
		placed(t, 0, does(slices.Repeat([]api.Instr{guard}, n)...), n >= 1 && n <= 8, n == 0)
	}
}

// TestMayOfInstructions: one that may not be, or can fail, at each place of a Code.
func TestMayOfInstructions(t *testing.T) {
	for n := 1; n <= 8; n++ {
		for i := range n {
			for _, x := range []api.Instr{get, set, del, add, sub, guard, {Op: api.OpPut, K: key(-1, 0)}, {Op: api.OpScan, K: key(0, 9), L: key(0, 3)}} {
				l := slices.Repeat([]api.Instr{set}, n)
				l[i] = x
				placed(t, 1, does(l...), true, x.Op <= api.OpSet)
			}
			for _, x := range []api.Instr{{}, {Op: 9}, {Op: -1}, {Op: api.OpSet, A: 4}, {Op: api.OpSet, B: 1}, {Op: api.OpGet, K: key(-2, 0)}, {Op: api.OpDelete, K: key(-1, 901)}} {
				l := slices.Repeat([]api.Instr{set}, n)
				l[i] = x
				placed(t, 1, does(l...), false, false)
			}
		}
	}
}

// TestMayForArguments: a Code, and a Foot, may be for as many arguments as the class has, wherever they stand.
func TestMayForArguments(t *testing.T) {
	for args := range 4 {
		for arg := -1; arg < 5; arg++ {
			want := arg < args
			for _, x := range []api.Instr{{Op: api.OpGet, K: key(arg, 5)}, {Op: api.OpPut, K: key(arg, 0)}, {Op: api.OpDelete, K: key(arg, 900)}, {Op: api.OpScan, K: key(-1, 1), L: key(arg, 5)}} {
				placed(t, args, does(x), want, want)
				placed(t, args, does(set, set, x), want, want)
			}
			placed(t, args, at(api.SpanT{Lo: key(arg, 5), Hi: key(-1, 7)}), want, want)
			placed(t, args, at(from(1, 2), api.SpanT{Lo: key(-1, 5), Hi: key(arg, 7), Write: true}), want, want)
			placed(t, args, api.Step{Foot: []api.SpanT{{Lo: key(arg, 5), Hi: key(arg, 7)}}}, false, want)
		}
	}
}

func TestMayOfFootprints(t *testing.T) {
	for n := range 9 {
		placed(t, 0, at(slices.Repeat([]api.SpanT{from(1, 2)}, n)...), n <= 4, n <= 4)
	}
	for _, base := range append([]int{-1, 0, 900, 901, 999, 1000}, far...) {
		want := base == 0 || base == 900
		placed(t, 0, at(from(base, 5)), want, want)
		placed(t, 0, at(from(9, 8), written(from(5, base))), want, want)
	}
}

func TestMayOfAny(t *testing.T) {
	rnd := rand.New(rand.NewSource(1))
	var b balance
	for range 40000 {
		c := turned(rnd)
		may(t, c, mayBe(c))
		b.add(mayBe(c))
		u := uneven(rnd)
		may(t, u, mayBe(u))
	}
	b.held(t, 5000)
}

// P11.1: Put.

// put tells what Put writes of a class.
func put(c api.Class) []uint64 {
	var w codes.Writer
	Put(&w, c)
	return w.Done()
}

// puts sees to it that a class has these words, as the model says too.
func puts(t *testing.T, c api.Class, want ...uint64) {
	t.Helper()
	if l := put(c); !slices.Equal(l, want) || !slices.Equal(wordsOf(c), want) {
		t.Errorf("Put(%s): %d, not %d (the model: %d)", whole(c), l, want, wordsOf(c))
	}
}

// TestPutInNumbers holds words against such as were worked out by hand.
func TestPutInNumbers(t *testing.T) {
	puts(t, api.Class{}, 0, 0, 0, 0)
	puts(t, api.Class{Resume: true}, 0, 0, 0, 1)
	puts(t, api.Class{Name: "ab", Args: 3, Resume: true}, 2, 25185, 3, 0, 1)
	puts(t, api.Class{Name: "ab", Args: -5}, 2, 25185, 0, 0, 0)
	puts(t, of(1, does(set)), 1, 97, 1, 1, 1, 5, 2, 0, 0, 0, 0, 0, 0, 13, 0, 0, 0, 0)
	c := api.Class{
		Name: "12345678a", Args: 1, Resume: true,
		Steps: []api.Step{{Code: []api.Instr{get}, Foot: []api.SpanT{{Lo: key(0, 5), Hi: key(-1, 7), Write: true}}}, does(guard)},
		Comps: []api.Step{at(from(8, 9)), {Code: []api.Instr{del}}},
	}
	puts(t, c, 9, 0x3837363534333231, 97, 1, 2,
		1, 1, 1, 0, 0, 0, 5, 0, 0, 0, 1, 0, 5, 1, 7, 1,
		1, 5, 2, 0, 0, 0, 0, 0, 0, 13, 1, 1, 8, 1, 9, 0,
		1, 8, 2, 0, 0, 0, 0, 0, 0, 8, 0,
		1, 3, 0, 0, 0, 1, 9, 0, 0, 0, 0,
		1)
	c.Resume = false
	if l := put(c); l[len(l)-1] != 0 {
		t.Errorf("Resume: %d", l)
	}
}

// TestPutOfAny: of classes that may not be, too, it writes what a Writer's calls do.
func TestPutOfAny(t *testing.T) {
	rnd := rand.New(rand.NewSource(2))
	for range 10000 {
		for _, c := range []api.Class{turned(rnd), uneven(rnd)} {
			if w := put(c); !slices.Equal(w, wordsOf(c)) {
				t.Fatalf("Put(%s): %d, not %d", whole(c), w, wordsOf(c))
			}
		}
	}
}

func TestPutWritesBehind(t *testing.T) {
	var w codes.Writer
	w.Count(5)
	Put(&w, pay())
	w.Flag(true)
	Put(&w, of(0, does(set)))
	want := slices.Concat([]uint64{5}, wordsOf(pay()), []uint64{1}, wordsOf(of(0, does(set))))
	if l := w.Done(); !slices.Equal(l, want) {
		t.Errorf("%d, not %d", l, want)
	}
}

func TestPutOfNoWriter(t *testing.T) {
	Put(nil, api.Class{})
	Put(nil, pay())
}

// P11.1: Get.

// reads sees to it that a class is read from words, and that those behind it are left.
func reads(t *testing.T, words []uint64, want api.Class, behind int) {
	t.Helper()
	r := codes.NewReader(words)
	if c, ok := Get(r); !ok || whole(c) != whole(want) || !r.Ok() || r.End() != (behind == 0) {
		t.Errorf("Get of %d: %s, %t, %t, not %s", words, whole(c), ok, r.Ok(), whole(want))
	}
	for i := range behind {
		if w := signed(int(r.Signed())); w != words[len(words)-behind+i] || !r.Ok() {
			t.Errorf("behind a class of %d: %d", words, w)
		}
	}
	if !r.End() {
		t.Errorf("something is left of %d", words)
	}
}

// readsNone sees to it that no class is read from words, and that the reader isn't right from then on, however much is left.
func readsNone(t *testing.T, words []uint64) {
	t.Helper()
	for _, l := range [][]uint64{words, append(slices.Clone(words), make([]uint64, 40)...)} {
		if _, _, ok := classOf(l); ok {
			continue
		}
		r := codes.NewReader(l)
		for range 2 {
			if c, ok := Get(r); ok || whole(c) != whole(api.Class{}) || c.Steps != nil || c.Comps != nil || r.Ok() || r.End() {
				t.Errorf("Get of %d: %s, %t, %t", l, whole(c), ok, r.Ok())
			}
		}
		if r.Signed() != 0 || r.Count(9) != 0 || r.Ok() {
			t.Errorf("a reader behind %d is right", l)
		}
	}
}

// readsAs sees to it that of words a class is read, or none, as the model says.
func readsAs(t *testing.T, words []uint64) bool {
	t.Helper()
	c, takes, ok := classOf(words)
	if ok {
		reads(t, words, c, len(words)-takes)
	} else {
		readsNone(t, words)
	}
	return ok
}

func TestGet(t *testing.T) {
	for _, resume := range []bool{false, true} {
		c := changed(func(c *api.Class) { c.Resume = resume })
		reads(t, wordsOf(c), c, 0)
		reads(t, append(wordsOf(c), 1), c, 1)
		reads(t, append(wordsOf(c), math.MaxUint64, 0, 7), c, 3)
	}
	reads(t, []uint64{1, 97, 1, 1, 1, 5, 2, 0, 0, 0, 0, 0, 0, 13, 0, 0, 0, 1}, changed(func(c *api.Class) { *c = of(1, does(set)); c.Resume = true }), 0)
	readsNone(t, nil)
	readsNone(t, []uint64{0, 0, 0, 0})
}

func TestGetOfArguments(t *testing.T) {
	for _, n := range []uint64{0, 1, 2, 3, 4, 5, 255, 256, 1 << 32, 1<<32 + 1, 1 << 63, math.MaxUint64} {
		words := wordsOf(of(0, does(set)))
		words[2] = n
		if readsAs(t, words) != (n <= 3) {
			t.Errorf("of %d arguments", n)
		}
	}
}

// TestGetOfHowMany: as many steps as are told, which all stand there.
func TestGetOfHowMany(t *testing.T) {
	for n := range 9 {
		c := compensated(0, slices.Repeat([]api.Step{does(del)}, n)...)
		if readsAs(t, wordsOf(c)) != (n >= 1 && n <= 4) {
			t.Errorf("of %d steps", n)
		}
		for _, told := range []uint64{5, 6, 255, 256, 257, 1 << 32, 1<<32 + 1, 1 << 63, 1<<63 + 1, math.MaxUint64} {
			words := wordsOf(c)
			words[3] = told
			readsNone(t, words)
		}
	}
	// Of no steps: all else is as it may be.
	readsNone(t, []uint64{1, 97, 0, 0, 0})
	readsNone(t, []uint64{1, 97, 0, 0, 1})
}

func TestGetOfNames(t *testing.T) {
	for n := range 70 {
		for _, s := range []string{"x", "\x00", "\xff"} {
			c := of(0, does(set))
			c.Name = strings.Repeat(s, n)
			if n <= 64 && readsAs(t, wordsOf(c)) != (n >= 1 && n <= 16) {
				t.Errorf("of a name of %d bytes", n)
			}
		}
	}
	for _, n := range []uint64{65, 255, 1 << 32, 1<<32 + 1, math.MaxUint64} {
		words := wordsOf(pay())
		words[0] = n
		readsNone(t, words)
	}
	// A byte behind the text that isn't zero.
	words := wordsOf(pay())
	words[1] |= 1 << 24
	readsNone(t, words)
}

func TestGetOfResume(t *testing.T) {
	for _, w := range []uint64{2, 3, 255, 256, 1 << 32, 1<<32 + 1, 1 << 63, math.MaxUint64} {
		words := wordsOf(pay())
		words[len(words)-1] = w
		readsNone(t, words)
	}
}

// TestGetOfClassesThatMayNotBe: each part of them can be read.
func TestGetOfClassesThatMayNotBe(t *testing.T) {
	for i, change := range []func(c *api.Class){
		func(c *api.Class) { c.Name = "" },
		func(c *api.Class) { c.Name = "0123456789abcdefg" },
		func(c *api.Class) { c.Args = 0 },
		func(c *api.Class) { c.Args = 1 },
		func(c *api.Class) { c.Steps, c.Comps = nil, nil },
		func(c *api.Class) { c.Steps[0].Code = nil },
		func(c *api.Class) { c.Steps[2].Code = nil },
		func(c *api.Class) { c.Steps[1].Code = []api.Instr{{}} },
		func(c *api.Class) { c.Steps[2].Code = []api.Instr{{Op: api.OpDelete, K: key(2, 5)}} },
		func(c *api.Class) { c.Steps[0].Foot[0].Hi.Base = 901 },
		func(c *api.Class) { c.Steps[2].Foot[0].Lo.Arg = 2 },
		func(c *api.Class) { c.Comps[0].Code = []api.Instr{guard} },
		func(c *api.Class) { c.Comps[2].Code = []api.Instr{set, sub} },
		func(c *api.Class) { c.Comps[1].Code[0].K.Arg = 2 },
		func(c *api.Class) { c.Comps[2].Code[0].A = 4 },
		func(c *api.Class) { c.Comps[0].Foot = []api.SpanT{from(901, 1)} },
		func(c *api.Class) { c.Comps[2].Foot[1].Hi.Arg = 2 },
	} {
		c := changed(change)
		may(t, c, false)
		if readsAs(t, wordsOf(c)) {
			t.Errorf("the class %d is read: %s", i, whole(c))
		}
	}
}

// TestGetOfEachWord tries each word at its edges, all others as they may be.
func TestGetOfEachWord(t *testing.T) {
	tried := []uint64{0, 1, 2, 3, 4, 5, 8, 9, 255, 256, 257, 511, 512, 900, 901, 999, 1000, 1 << 31, 1 << 32, 1<<32 + 1, 1 << 63, 1<<63 + 1, math.MaxUint64 - 1, math.MaxUint64}
	var b balance
	for at := range wordsOf(pay()) {
		for _, w := range tried {
			words := wordsOf(pay())
			words[at] = w
			b.add(readsAs(t, words))
		}
	}
	b.held(t, 200)
}

func TestGetOfWordsThatEndTooEarly(t *testing.T) {
	for _, c := range []api.Class{pay(), of(0, does(set)), compensated(1, does(get), api.Step{}, at(from(1, 2)))} {
		for _, resume := range []bool{false, true} {
			c.Resume = resume
			words := wordsOf(c)
			for end := range words {
				r := codes.NewReader(words[:end])
				if d, ok := Get(r); ok || whole(d) != whole(api.Class{}) || r.Ok() || r.End() {
					t.Errorf("Get of the first %d words of %d: %s, %t, %t", end, words, whole(d), ok, r.Ok())
				}
			}
		}
	}
}

func TestGetOfSomeOneBehindTheOther(t *testing.T) {
	all := []api.Class{pay(), of(0, does(set)), pay(), compensated(3, at(from(1, 2)), api.Step{})}
	l := []uint64{7}
	for _, c := range all {
		l = append(l, wordsOf(c)...)
	}
	r := codes.NewReader(append(l, 1))
	if n := r.Count(9); n != 7 {
		t.Fatal(n)
	}
	for i, want := range all {
		if c, ok := Get(r); !ok || whole(c) != whole(want) || !r.Ok() || r.End() {
			t.Errorf("the class %d: %s, %t", i, whole(c), ok)
		}
	}
	if !r.Flag() || !r.End() {
		t.Error("the flag behind")
	}
}

func TestGetOfAReaderThatIsNotRight(t *testing.T) {
	for name, spoil := range map[string]func(r *codes.Reader){
		"a flag":  func(r *codes.Reader) { r.Flag() },
		"a count": func(r *codes.Reader) { r.Count(1) },
		"words":   func(r *codes.Reader) { r.Words(1) },
		"a class": func(r *codes.Reader) { Get(r) },
	} {
		r := codes.NewReader(append([]uint64{2}, wordsOf(pay())...))
		spoil(r)
		if c, ok := Get(r); ok || whole(c) != whole(api.Class{}) || r.Ok() || r.End() {
			t.Errorf("%s: %s, %t, %t", name, whole(c), ok, r.Ok())
		}
	}
}

func TestGetOfNoReader(t *testing.T) {
	if c, ok := Get(nil); ok || whole(c) != whole(api.Class{}) {
		t.Errorf("of nil: %s, %t", whole(c), ok)
	}
	var r codes.Reader
	if c, ok := Get(&r); ok || whole(c) != whole(api.Class{}) || r.Ok() {
		t.Errorf("of a zero value: %s, %t, %t", whole(c), ok, r.Ok())
	}
}

// TestGetOfAny holds Get of words that were spoilt somewhere, or cut, or lengthened, against the model.
func TestGetOfAny(t *testing.T) {
	rnd := rand.New(rand.NewSource(3))
	var b balance
	for range 20000 {
		words := wordsOf(randomOf(rnd, good, turned, uneven)(rnd))
		if rnd.Intn(3) == 0 {
			words[rnd.Intn(len(words))] = rnd.Uint64() >> randomOf(rnd, rnd.Intn(64), 60, 62)
		}
		if rnd.Intn(8) == 0 {
			words = words[:rnd.Intn(len(words)+1)]
		}
		for range rnd.Intn(3) {
			words = append(words, rnd.Uint64())
		}
		b.add(readsAs(t, words))
	}
	b.held(t, 3000)
}

// P11.2: Same.

// same sees to it that two classes are the same, or not, whichever is the first one, as the model says too.
func same(t *testing.T, a, b api.Class, want bool) {
	t.Helper()
	if (whole(a) == whole(b)) != want {
		t.Fatalf("the model of %s, %s", whole(a), whole(b))
	}
	if Same(a, b) != want || Same(b, a) != want {
		t.Errorf("Same(%s, %s): not %t", whole(a), whole(b), want)
	}
}

func TestSame(t *testing.T) {
	same(t, pay(), pay(), true)
	same(t, api.Class{}, api.Class{}, true)
	same(t, api.Class{}, pay(), false)
	// nil and empty are one and the same.
	same(t, api.Class{}, api.Class{Steps: []api.Step{}, Comps: []api.Step{}}, true)
	same(t, api.Class{Steps: []api.Step{{}}}, api.Class{Steps: []api.Step{{Code: []api.Instr{}, Foot: []api.SpanT{}}}}, true)
	same(t, api.Class{Comps: []api.Step{{}}}, api.Class{Comps: []api.Step{{Code: []api.Instr{}, Foot: []api.SpanT{}}}}, true)
	same(t, api.Class{Comps: []api.Step{{}}}, api.Class{}, false)
	same(t, api.Class{Steps: []api.Step{{}}}, api.Class{}, false)
	same(t, api.Class{Steps: []api.Step{{}}}, api.Class{Comps: []api.Step{{}}}, false)
}

// TestSameButForOnePart changes each part in its turn, whether the class may be then or not.
func TestSameButForOnePart(t *testing.T) {
	for i, change := range []func(c *api.Class){
		func(c *api.Class) { c.Name = "pax" },
		func(c *api.Class) { c.Name = "Pay" },
		func(c *api.Class) { c.Name = "pa" },
		func(c *api.Class) { c.Name = "pay " },
		func(c *api.Class) { c.Name = "" },
		func(c *api.Class) { c.Args = 1 },
		func(c *api.Class) { c.Args = 3 },
		func(c *api.Class) { c.Resume = false },
		func(c *api.Class) { c.Steps, c.Comps = append(c.Steps, c.Steps[2]), append(c.Comps, c.Comps[2]) },
		func(c *api.Class) { c.Steps, c.Comps = c.Steps[:2], c.Comps[:2] },
		func(c *api.Class) { c.Steps, c.Comps = c.Steps[1:], c.Comps[1:] },
		func(c *api.Class) { c.Steps = c.Steps[:2] },
		func(c *api.Class) { c.Comps = c.Comps[:2] },
		func(c *api.Class) { c.Steps = append(c.Steps, api.Step{}) },
		func(c *api.Class) { c.Comps = append(c.Comps, api.Step{}) },
		func(c *api.Class) { c.Steps[0], c.Steps[1] = c.Steps[1], c.Steps[0] },
		func(c *api.Class) { c.Comps[1], c.Comps[2] = c.Comps[2], c.Comps[1] },
		func(c *api.Class) { c.Steps, c.Comps = c.Comps, c.Steps },
		func(c *api.Class) { c.Steps, c.Comps = nil, nil },
	} {
		if c := changed(change); Same(c, pay()) || Same(pay(), c) {
			t.Errorf("the change %d: %s", i, whole(c))
		}
		same(t, changed(change), pay(), false)
		same(t, changed(change), changed(change), true)
	}
}

// stepChanges tells ways to change one part of a step that has instructions and spans.
func stepChanges() []func(s *api.Step) {
	return []func(s *api.Step){
		func(s *api.Step) { s.Code = nil },
		func(s *api.Step) { s.Foot = nil },
		func(s *api.Step) { s.Code = append(s.Code, set) },
		func(s *api.Step) { s.Foot = append(s.Foot, from(0, 0)) },
		func(s *api.Step) { s.Code = s.Code[:len(s.Code)-1] },
		func(s *api.Step) { s.Foot = s.Foot[:len(s.Foot)-1] },
		func(s *api.Step) { s.Code[len(s.Code)-1].Op++ },
		func(s *api.Step) { s.Code[0].A++ },
		func(s *api.Step) { s.Code[0].B++ },
		func(s *api.Step) { s.Code[0].C++ },
		func(s *api.Step) { s.Code[0].K.Arg++ },
		func(s *api.Step) { s.Code[0].K.Base++ },
		func(s *api.Step) { s.Code[0].L.Arg++ },
		func(s *api.Step) { s.Code[0].L.Base++ },
		func(s *api.Step) { s.Code[len(s.Code)-1].X++ },
		func(s *api.Step) { s.Foot[0].Lo.Arg++ },
		func(s *api.Step) { s.Foot[0].Lo.Base++ },
		func(s *api.Step) { s.Foot[0].Hi.Arg++ },
		func(s *api.Step) { s.Foot[len(s.Foot)-1].Hi.Base++ },
		func(s *api.Step) { s.Foot[0].Write = !s.Foot[0].Write },
		func(s *api.Step) { s.Foot[len(s.Foot)-1].Write = !s.Foot[len(s.Foot)-1].Write },
	}
}

// TestSameButForOnePartOfAStep changes each part of a step, or of a Comp, in its turn: of the first one, and of the last one.
func TestSameButForOnePartOfAStep(t *testing.T) {
	full := func() api.Class {
		var c api.Class
		for range 4 {
			c.Steps = append(c.Steps, api.Step{Code: []api.Instr{get, del}, Foot: []api.SpanT{from(1, 2), written(from(3, 4))}})
			c.Comps = append(c.Comps, api.Step{Code: []api.Instr{del, set}, Foot: []api.SpanT{written(from(5, 6)), from(7, 8)}})
		}
		return c
	}
	for i, change := range stepChanges() {
		for at := range 4 {
			a, b := full(), full()
			change(&a.Steps[at])
			change(&b.Comps[at])
			if Same(a, full()) || Same(full(), b) || Same(a, b) {
				t.Errorf("the change %d of the step %d", i, at)
			}
			same(t, a, full(), false)
			same(t, b, full(), false)
			same(t, a, b, false)
		}
	}
}

func TestSameOfAny(t *testing.T) {
	rnd := rand.New(rand.NewSource(4))
	var b balance
	for range 5000 {
		seed := rnd.Int63()
		again := func() api.Class { return good(rand.New(rand.NewSource(seed))) }
		x, y := again(), again()
		if rnd.Intn(2) == 0 {
			randomOf(rnd, turns(rnd)...)(&y)
		}
		same(t, x, y, whole(x) == whole(y))
		b.add(whole(x) == whole(y))
		same(t, x, turned(rnd), false)
	}
	b.held(t, 1000)
}

// P11.2: Foot.

// has sees to it that a class reads and writes these for arguments, as the model says too.
func has(t *testing.T, c api.Class, args []int, reads, writes []api.Span) {
	t.Helper()
	if r, w := keysOf(c, args); !slices.Equal(r, reads) || !slices.Equal(w, writes) {
		t.Fatalf("the model of %s, %d: %v, %v", whole(c), args, r, w)
	}
	if r, w := Foot(c, args); !slices.Equal(r, reads) || !slices.Equal(w, writes) {
		t.Errorf("Foot(%s, %d): %v, %v, not %v, %v", whole(c), args, r, w, reads, writes)
	}
}

func TestFoot(t *testing.T) {
	has(t, pay(), []int{10, 4}, spans(15, 17, 20, 29, 904, 904), spans(20, 29, 904, 904))
	has(t, pay(), []int{12, 99}, spans(17, 29, 999, 999), spans(20, 29, 999, 999))
	has(t, pay(), []int{99, 0}, spans(20, 29, 104, 106, 900, 900), spans(20, 29, 900, 900))
	has(t, of(0, does(set)), nil, nil, nil)
	has(t, of(0, does(set)), []int{}, nil, nil)
	has(t, of(0, at(from(9, 8))), nil, nil, nil)
	has(t, of(0, at(from(0, 900))), nil, spans(0, 900), nil)
	has(t, of(0, at(written(from(0, 900)))), nil, spans(0, 900), spans(0, 900))
}

// TestFootOfDifferentSteps: spans of different steps that overlap, that touch, and that lie apart.
func TestFootOfDifferentSteps(t *testing.T) {
	for _, c := range []struct{ l, want []api.Span }{
		{spans(1, 5, 5, 9), spans(1, 9)},
		{spans(1, 5, 3, 9), spans(1, 9)},
		{spans(1, 9, 3, 4), spans(1, 9)},
		{spans(1, 9, 1, 9), spans(1, 9)},
		{spans(1, 5, 6, 9), spans(1, 9)},
		{spans(1, 5, 7, 9), spans(1, 5, 7, 9)},
		{spans(1, 5, 7, 9, 6, 6), spans(1, 9)},
		{spans(30, 40, 20, 25, 10, 15, 0, 5), spans(0, 5, 10, 15, 20, 25, 30, 40)},
		{spans(30, 40, 9, 8, 10, 15), spans(10, 15, 30, 40)},
	} {
		var alone, too, gather []api.Step
		var all []api.SpanT
		for _, s := range c.l {
			alone, too = append(alone, at(from(s.Lo, s.Hi))), append(too, at(written(from(s.Lo, s.Hi))))
			all = append(all, from(s.Lo, s.Hi))
		}
		gather = append(gather, at(all...), does(set))
		for range 2 {
			has(t, of(0, alone...), nil, c.want, nil)
			has(t, of(0, too...), nil, c.want, c.want)
			has(t, of(0, gather...), nil, c.want, nil)
			slices.Reverse(alone)
			slices.Reverse(too)
			slices.Reverse(gather)
		}
	}
}

// TestFootOfReadsAndWrites: what one step writes all of them read, but not the other way round.
func TestFootOfReadsAndWrites(t *testing.T) {
	one, two := at(from(5, 9)), at(written(from(7, 7)))
	has(t, of(0, one, two), nil, spans(5, 9), spans(7, 7))
	has(t, of(0, two, one), nil, spans(5, 9), spans(7, 7))
	has(t, of(0, one, one), nil, spans(5, 9), nil)
	has(t, of(0, at(from(5, 5)), at(written(from(5, 5)))), nil, spans(5, 5), spans(5, 5))
	has(t, of(0, at(written(from(5, 5))), at(from(6, 6)), at(written(from(7, 7)))), nil, spans(5, 7), spans(5, 5, 7, 7))
	has(t, of(0, at(from(1, 1)), at(from(3, 3)), at(from(5, 5)), at(written(from(7, 7)))), nil, spans(1, 1, 3, 3, 5, 5, 7, 7), spans(7, 7))
}

// TestFootOfMoreSpansThanAFootprintHas: four steps of four spans each.
func TestFootOfMoreSpansThanAFootprintHas(t *testing.T) {
	var steps []api.Step
	var want []api.Span
	for i := range 4 {
		var l []api.SpanT
		for k := range 4 {
			lo := 100*i + 10*k
			l, want = append(l, written(from(lo, lo+3))), append(want, api.Span{Lo: lo, Hi: lo + 3})
		}
		steps = append(steps, at(l...))
	}
	has(t, of(0, steps...), nil, want, want)
	slices.Reverse(steps)
	has(t, of(0, steps...), nil, want, want)
}

// TestFootHasNothingOfComps: what compensates declares its own keys.
func TestFootHasNothingOfComps(t *testing.T) {
	c := of(1, at(from(5, 6)), at(written(from(8, 8))))
	for _, comp := range []api.Step{{}, at(from(50, 60)), at(written(from(50, 60))), at(written(from(5, 6))), at(api.SpanT{Lo: key(0, 9), Hi: key(0, 99), Write: true}), {Foot: []api.SpanT{written(from(7, 7))}}} {
		c.Comps = []api.Step{comp, comp}
		has(t, c, []int{40}, spans(5, 6, 8, 8), spans(8, 8))
	}
}

// TestFootOfArguments: as many as the class has, each of them from 0 to 99.
func TestFootOfArguments(t *testing.T) {
	for n := range 4 {
		c := of(n, at(written(from(5, 6))))
		for m := range 6 {
			for i := range m {
				for _, a := range append([]int{-2, -1, 0, 1, 98, 99, 100, 101}, far...) {
					args := make([]int, m)
					args[i] = a
					if n == m && a >= 0 && a <= 99 {
						has(t, c, args, spans(5, 6), spans(5, 6))
					} else {
						has(t, c, args, nil, nil)
					}
				}
			}
		}
		if n > 0 {
			has(t, c, nil, nil, nil)
		}
		has(t, c, make([]int, n), spans(5, 6), spans(5, 6))
	}
	for _, args := range [][]int{nil, {1}, {1, 2, 3}, {1, 100}, {-1, 2}, {1, -1}, {100, 2}} {
		has(t, pay(), args, nil, nil)
	}
	hang := of(2, at(api.SpanT{Lo: key(0, 0), Hi: key(1, 900), Write: true}), at(api.SpanT{Lo: key(1, 7), Hi: key(1, 7)}))
	has(t, hang, []int{99, 0}, spans(7, 7, 99, 900), spans(99, 900))
	has(t, hang, []int{0, 99}, spans(0, 999), spans(0, 999))
}

// TestFootOfClassesThatMayNotBe: whichever part may not be, there is nothing of the others.
func TestFootOfClassesThatMayNotBe(t *testing.T) {
	for i, change := range []func(c *api.Class){
		func(c *api.Class) { *c = api.Class{} },
		func(c *api.Class) { c.Name = "" },
		func(c *api.Class) { c.Name = "0123456789abcdefg" },
		func(c *api.Class) { c.Comps = c.Comps[:2] },
		func(c *api.Class) { c.Comps = append(c.Comps, api.Step{}) },
		func(c *api.Class) { c.Steps = c.Steps[:2] },
		func(c *api.Class) { c.Steps, c.Comps = append(c.Steps, c.Steps...), append(c.Comps, c.Comps...) },
		func(c *api.Class) { c.Steps[2].Code = nil },
		func(c *api.Class) { c.Steps[0].Code[0].Op = 9 },
		func(c *api.Class) { c.Steps[2].Foot[0].Lo.Arg = 2 },
		func(c *api.Class) { c.Steps[1].Foot = slices.Repeat([]api.SpanT{from(1, 1)}, 5) },
		func(c *api.Class) { c.Comps[2].Code = []api.Instr{guard} },
		func(c *api.Class) { c.Comps[0].Foot = []api.SpanT{from(901, 1)} },
	} {
		c := changed(change)
		if r, w := Foot(c, []int{10, 4}); len(r) > 0 || len(w) > 0 {
			t.Errorf("the change %d: %v, %v", i, r, w)
		}
		has(t, c, []int{10, 4}, nil, nil)
	}
	for _, args := range []int{-1, 4, 5} {
		c := of(args, at(written(from(5, 6))))
		for n := range 6 {
			has(t, c, make([]int, n), nil, nil)
		}
	}
}

func TestFootOfAny(t *testing.T) {
	rnd := rand.New(rand.NewSource(5))
	var b balance
	for range 20000 {
		c := randomOf(rnd, good, good, turned)(rnd)
		args := goodArgs(rnd, min(max(c.Args, 0), 4))
		if len(args) > 0 && rnd.Intn(9) == 0 {
			args[rnd.Intn(len(args))] = randomOf(rnd, -1, 100)
		}
		if rnd.Intn(9) == 0 {
			args = append(args, rnd.Intn(100))
		}
		r, w := keysOf(c, args)
		has(t, c, args, r, w)
		b.add(len(r) > 0)
	}
	b.held(t, 3000)
}

// P11.3

// tells sees to it that a class is told in these lines, as the model says too.
func tells(t *testing.T, c api.Class, want string) {
	t.Helper()
	if s := textOf(c); s != want {
		t.Fatalf("the model of %s: %q", whole(c), s)
	}
	if s := Text(c); s != want {
		t.Errorf("Text(%s): %q, not %q", whole(c), s, want)
	}
}

func TestText(t *testing.T) {
	tells(t, pay(), "class pay 2\nstep 1\n  get r1 5+a0\n  guard r2 4\nundo 1\nstep 2\n  set r2 -7\n  add r1 r2 r3\n  sub r3 r1 r2\nundo 2\n  delete 9\n  set r2 -7\nstep 3\n  delete 9\nundo 3\n  get r1 5+a0\n")
	tells(t, of(1, does(set)), "class a 1\nstep 1\n  set r2 -7\nundo 1\n")
	tells(t, api.Class{Name: "a b", Args: 3}, "class a b 3\n")
	tells(t, api.Class{Name: "a\nb\x00\xff"}, "class a\nb\x00\xff 0\n")
	tells(t, api.Class{}, "class  0\n")
	tells(t, api.Class{Args: -1}, "class  -1\n")
	tells(t, api.Class{Args: math.MinInt}, "class  -9223372036854775808\n")
	tells(t, api.Class{Name: strings.Repeat("x", 100), Args: 4}, "class "+strings.Repeat("x", 100)+" 4\n")
}

// TestTextOfOneWithoutTheOther: a step without its Comp, or a Comp without its step, has no lines.
func TestTextOfOneWithoutTheOther(t *testing.T) {
	steps, comps := []api.Step{does(set), does(get), does(guard)}, []api.Step{does(del), {}, does(add)}
	lines := []string{"step 1\n  set r2 -7\nundo 1\n  delete 9\n", "step 2\n  get r1 5+a0\nundo 2\n", "step 3\n  guard r2 4\nundo 3\n  add r1 r2 r3\n"}
	for n := range 4 {
		for m := range 4 {
			tells(t, api.Class{Name: "c", Steps: steps[:n], Comps: comps[:m]}, "class c 0\n"+strings.Join(lines[:min(n, m)], ""))
		}
	}
}

// TestTextOfCodes: of no instruction, and of several, those that may not be among them.
func TestTextOfCodes(t *testing.T) {
	tells(t, of(0, api.Step{}), "class a 0\nstep 1\nundo 1\n")
	tells(t, of(0, api.Step{Foot: []api.SpanT{from(1, 2)}}, api.Step{}), "class a 0\nstep 1\nundo 1\nstep 2\nundo 2\n")
	tells(t, compensated(0, does(get, set, del)), "class a 0\nstep 1\n  set r2 -7\nundo 1\n  get r1 5+a0\n  set r2 -7\n  delete 9\n")
	tells(t, of(0, does(api.Instr{Op: 9}, api.Instr{})), "class a 0\nstep 1\n  ?\n  ?\nundo 1\n")
	tells(t, of(0, does(slices.Repeat([]api.Instr{set}, 9)...)), "class a 0\nstep 1\n"+strings.Repeat("  set r2 -7\n", 9)+"undo 1\n")
}

// TestTextOfMoreStepsThanMayBe: their numbers go on from 9 to 10.
func TestTextOfMoreStepsThanMayBe(t *testing.T) {
	want := "class a 0\n"
	for i := 1; i <= 120; i++ {
		want += fmt.Sprintf("step %d\n  set r2 -7\nundo %d\n  delete 9\n", i, i)
	}
	tells(t, compensated(0, slices.Repeat([]api.Step{does(del)}, 120)...), want)
}

func TestTextOfAny(t *testing.T) {
	rnd := rand.New(rand.NewSource(6))
	for range 5000 {
		for _, c := range []api.Class{good(rnd), turned(rnd), uneven(rnd)} {
			tells(t, c, textOf(c))
		}
	}
}

// P11.4

// TestReadFromItsWords: a class that may be is read from its words, whatever stands ahead of them and behind.
func TestReadFromItsWords(t *testing.T) {
	rnd := rand.New(rand.NewSource(7))
	for range 4000 {
		var all []api.Class
		var w codes.Writer
		w.Signed(-5)
		for range 1 + rnd.Intn(3) {
			c := good(rnd)
			if !May(c) {
				t.Fatalf("May(%s)", whole(c))
			}
			all = append(all, c)
			Put(&w, c)
		}
		w.Text("ab")
		r := codes.NewReader(w.Done())
		if x := r.Signed(); x != -5 {
			t.Fatal(x)
		}
		for _, want := range all {
			if c, ok := Get(r); !ok || !Same(c, want) || whole(c) != whole(want) || !May(c) || !r.Ok() {
				t.Fatalf("%s is read as %s", whole(want), whole(c))
			}
		}
		if s := r.Text(); s != "ab" || !r.End() {
			t.Fatal("the text behind:", s)
		}
	}
}

// TestReadAtTheEdges: the least class there may be, and the greatest one.
func TestReadAtTheEdges(t *testing.T) {
	most := api.Class{Name: "0123456789abcdef", Args: 3, Resume: true}
	span := api.SpanT{Lo: key(2, 900), Hi: key(2, 900), Write: true}
	for range 4 {
		most.Steps = append(most.Steps, api.Step{Code: slices.Repeat([]api.Instr{{Op: api.OpGuard, A: 3, X: math.MinInt64}}, 8), Foot: slices.Repeat([]api.SpanT{span}, 4)})
		most.Comps = append(most.Comps, api.Step{Code: slices.Repeat([]api.Instr{{Op: api.OpScan, A: 3, K: key(2, 900), L: key(-1, 0)}}, 8), Foot: slices.Repeat([]api.SpanT{span}, 4)})
	}
	for _, c := range []api.Class{most, {Name: "\x00", Steps: []api.Step{does(api.Instr{Op: api.OpSet})}, Comps: make([]api.Step, 1)}} {
		may(t, c, true)
		reads(t, put(c), c, 0)
	}
}

// What is handed in is left as it was, its spare room too, and an answer is new memory.

// roomy tells a class whose lists all have more behind them, spare, which is the class all tells.
func roomy() (c, all api.Class) {
	step := func(n int64) api.Step {
		return api.Step{Code: []api.Instr{{Op: api.OpSet, X: n}, get, {Op: 77}}, Foot: []api.SpanT{from(int(n), 9), written(from(3, 4)), {Lo: key(-9, -9)}}}
	}
	all = api.Class{Name: "roomy", Args: 1, Steps: []api.Step{step(1), step(2), step(3)}, Comps: []api.Step{step(4), step(5), step(6)}}
	cut := func(l []api.Step) []api.Step {
		cut := slices.Clone(l)
		for i := range cut {
			cut[i].Code, cut[i].Foot = cut[i].Code[:2], cut[i].Foot[:2]
		}
		return cut[:2]
	}
	c = all
	c.Steps, c.Comps = cut(all.Steps), cut(all.Comps)
	return c, all
}

func TestWhatIsHandedInIsLeftAsItWas(t *testing.T) {
	c, all := roomy()
	wasC, wasAll := roomy()
	args := []int{7, -1, 100}
	may(t, c, true)
	for range 2 {
		has(t, c, args[:1], spans(1, 9), spans(3, 4))
		same(t, c, wasC, true)
		tells(t, c, textOf(wasC))
		if w := put(c); !slices.Equal(w, wordsOf(wasC)) {
			t.Errorf("%d", w)
		}
		may(t, all, false)
		has(t, all, args, nil, nil)
		tells(t, all, textOf(wasAll))
		if w := put(all); !slices.Equal(w, wordsOf(wasAll)) {
			t.Errorf("%d", w)
		}
		Same(all, c)
		Same(c, all)
	}
	if whole(c) != whole(wasC) || whole(all) != whole(wasAll) || !slices.Equal(args, []int{7, -1, 100}) {
		t.Errorf("changed: %s, %s, %d", whole(c), whole(all), args)
	}
	for i, s := range slices.Concat(c.Steps[:3], c.Comps[:3]) {
		was := slices.Concat(wasC.Steps[:3], wasC.Comps[:3])[i]
		if !slices.Equal(s.Code[:3], was.Code[:3]) || !slices.Equal(s.Foot[:3], was.Foot[:3]) {
			t.Errorf("changed behind: %v", s)
		}
	}
}

func TestPutKeepsNothing(t *testing.T) {
	var w codes.Writer
	c := pay()
	Put(&w, c)
	for _, l := range [][]api.Step{c.Steps, c.Comps} {
		for i := range l {
			clear(l[i].Code)
			clear(l[i].Foot)
			l[i] = api.Step{}
		}
	}
	if words := w.Done(); !slices.Equal(words, wordsOf(pay())) {
		t.Errorf("something of the class is kept: %d", words)
	}
}

// spoilt writes over all that a list has, its spare room too, and tells it.
func spoilt(l []api.Span) []api.Span {
	all := l[:cap(l)]
	for i := range all {
		all[i] = api.Span{Lo: -7, Hi: -7}
	}
	return l
}

// TestFootSharesNoMemory: two answers, and the two lists of one, go their own ways.
func TestFootSharesNoMemory(t *testing.T) {
	for _, c := range []api.Class{of(0, at(written(from(1, 2)), written(from(4, 5)))), of(0, at(written(from(4, 5))), does(set), at(written(from(1, 2))))} {
		want := spans(1, 2, 4, 5)
		r, w := Foot(c, nil)
		other, another := Foot(c, nil)
		r = spoilt(r)
		if !slices.Equal(w, want) || !slices.Equal(other, want) || !slices.Equal(another, want) {
			t.Error("what is read is shared:", w, other, another)
		}
		w = spoilt(w)
		if r[0].Lo != -7 || w[0].Lo != -7 || !slices.Equal(other, want) || !slices.Equal(another, want) {
			t.Error("what is written is shared:", r, w, other, another)
		}
		has(t, c, nil, want, want)
	}
}

func TestGetSharesNoMemory(t *testing.T) {
	words := slices.Concat(wordsOf(pay()), wordsOf(pay()))
	was := slices.Clone(words)
	r, other := codes.NewReader(words), codes.NewReader(words)
	a, _ := Get(r)
	b, _ := Get(other)
	for _, l := range [][]api.Step{a.Steps[:cap(a.Steps)], a.Comps[:cap(a.Comps)]} {
		for i := range l {
			clear(l[i].Code[:cap(l[i].Code)])
			clear(l[i].Foot[:cap(l[i].Foot)])
		}
		clear(l)
	}
	if whole(b) != whole(pay()) || !slices.Equal(words, was) {
		t.Errorf("the other reader's class, or the words: %s, %d", whole(b), words)
	}
	for _, x := range []*codes.Reader{r, other} {
		if c, ok := Get(x); !ok || whole(c) != whole(pay()) || !x.End() {
			t.Errorf("the next class: %s, %t", whole(c), ok)
		}
	}
}

// TestNoTwoListsOfAClassThatIsReadShareMemory spoils each list in its turn.
func TestNoTwoListsOfAClassThatIsReadShareMemory(t *testing.T) {
	c := compensated(0, at(from(1, 2)), at(from(1, 2)), at(from(1, 2)))
	c.Steps = []api.Step{at(from(1, 2)), at(from(1, 2)), at(from(1, 2))}
	for at := range 6 {
		d, _ := Get(codes.NewReader(put(c)))
		want := whole(changed(func(x *api.Class) {
			*x, _ = Get(codes.NewReader(put(c)))
			s := append(slices.Clone(x.Steps), x.Comps...)[at]
			s.Code[0], s.Foot[0] = del, from(7, 7)
		}))
		s := append(slices.Clone(d.Steps), d.Comps...)[at]
		code, foot := s.Code[:cap(s.Code)], s.Foot[:cap(s.Foot)]
		for i := range code {
			code[i] = del
		}
		for i := range foot {
			foot[i] = from(7, 7)
		}
		if whole(d) != want || strings.Count(want, fmt.Sprint(del)) != 1 {
			t.Errorf("the list %d is shared: %s", at, whole(d))
		}
	}
}

// TestTheSameAgain: nothing is kept from call to call.
func TestTheSameAgain(t *testing.T) {
	for range 3 {
		may(t, pay(), true)
		may(t, api.Class{}, false)
		has(t, pay(), []int{10, 4}, spans(15, 17, 20, 29, 904, 904), spans(20, 29, 904, 904))
		has(t, pay(), []int{10, 100}, nil, nil)
		tells(t, pay(), textOf(pay()))
		readsNone(t, []uint64{5})
		reads(t, wordsOf(pay()), pay(), 0)
		same(t, pay(), pay(), true)
		same(t, pay(), api.Class{}, false)
		if l := put(pay()); !slices.Equal(l, wordsOf(pay())) {
			t.Error("Put:", l)
		}
	}
}
