package frames

import (
	"encoding/binary"
	"hash/crc32"
	"math"
	"math/rand"
	"slices"
	"testing"

	"gimmal/api"
)

// most is how many words a frame has, greatest the greatest epoch, and the greatest number in a stream, that the document names.
const (
	most     = 2000
	greatest = 1<<32 - 1
)

// markOf tells a mark as the document's words do.
func markOf(kind, n int, l ...uint64) uint64 {
	var b []byte
	for _, w := range append([]uint64{uint64(kind), uint64(n)}, l...) {
		b = binary.LittleEndian.AppendUint64(b, w)
	}
	sum := crc32.Checksum(b, crc32.MakeTable(crc32.Castagnoli))
	return uint64(kind)<<56 | uint64(n)<<32 | uint64(sum)
}

// wordsOf tells a frame's words as the document's words do, whether it may be or not.
func wordsOf(epoch, n int, f api.Frame) []uint64 {
	l := append([]uint64{uint64(epoch), uint64(n)}, f.Words...)
	return append([]uint64{markOf(f.Kind, len(f.Words), l...)}, f.Words...)
}

// streamOf tells the words of frames as a stream as the document's words do.
func streamOf(epoch int, l []api.Frame) []uint64 {
	var all []uint64
	for n, f := range l {
		all = append(all, wordsOf(epoch, n, f)...)
	}
	return all
}

// modelMay tells whether a frame may be, as the document's words do.
func modelMay(f api.Frame) bool { return f.Kind > 0 && f.Kind < 256 && len(f.Words) <= most }

// modelAll tells a stream's frames as the document's words do: whichever of all frames that may be has the words that stand there.
func modelAll(epoch int, l []uint64) ([]api.Frame, int) {
	var all []api.Frame
	takes := 0
	for epoch >= 0 && epoch <= greatest {
		f, ok := modelFirst(epoch, len(all), l[takes:])
		if !ok {
			break
		}
		all = append(all, f)
		takes += 1 + len(f.Words)
	}
	return all, takes
}

// modelFirst tells the frame that stands at the beginning of words, and whether there is one.
func modelFirst(epoch, n int, l []uint64) (api.Frame, bool) {
	for own := range len(l) {
		f := api.Frame{Kind: int(l[0] >> 56), Words: l[1 : 1+own]}
		if modelMay(f) && slices.Equal(wordsOf(epoch, n, f), l[:1+own]) {
			return api.Frame{Kind: f.Kind, Words: slices.Clone(f.Words)}, true
		}
	}
	return api.Frame{}, false
}

// frame tells a frame.
func frame(kind int, words ...uint64) api.Frame { return api.Frame{Kind: kind, Words: words} }

// rising tells n words, each another one.
func rising(n int) []uint64 {
	l := make([]uint64, n)
	for i := range l {
		l[i] = uint64(i)*0x0101010101010101 + 1
	}
	return l
}

func sameFrame(a, b api.Frame) bool { return a.Kind == b.Kind && slices.Equal(a.Words, b.Words) }

func sameFrames(a, b []api.Frame) bool { return slices.EqualFunc(a, b, sameFrame) }

// copied tells frames that share nothing with others.
func copied(l []api.Frame) []api.Frame {
	all := slices.Clone(l)
	for i, f := range all {
		all[i].Words = slices.Clone(f.Words)
	}
	return all
}

// some has frames that may be: of the least and the greatest kinds, without words, with few, with as many as there may be.
func some() []api.Frame {
	return []api.Frame{
		frame(1), frame(255), {Kind: 7, Words: []uint64{}},
		frame(1, 0), frame(255, math.MaxUint64), frame(1, 5, 6), frame(128, 0, 0, 0), frame(127, 0, 1, 0),
		frame(3, markOf(3, 0, 5, 9)), frame(2, rising(7)...), frame(2, rising(8)...), frame(9, rising(100)...),
		frame(255, make([]uint64, most)...), frame(254, rising(most-1)...), frame(1, rising(most)...),
	}
}

// wrong has frames that may not be: of no such kind, with too many words, both.
func wrong() []api.Frame {
	return []api.Frame{
		{}, frame(0), frame(0, 1), frame(-1), frame(-1, 1), frame(256), frame(256, 1), frame(257), frame(512, 3), frame(-255), frame(-256),
		frame(1<<32 + 1), frame(1<<56 + 1), frame(math.MinInt), frame(math.MaxInt),
		frame(1, rising(most+1)...), frame(255, make([]uint64, most+1)...), frame(7, rising(2*most)...), frame(7, rising(1<<16)...),
		frame(0, rising(most+1)...), frame(256, rising(most+1)...), frame(-1, rising(most+1)...),
	}
}

// numbers has epochs, and numbers in a stream, that there are.
func numbers() []int { return []int{0, 1, 2, 255, 1 << 16, 1 << 31, greatest - 1, greatest} }

// noNumbers has epochs, and numbers in a stream, that there aren't; some would be right if higher bits were cut off.
func noNumbers() []int {
	return []int{-1, -2, 1 << 32, 1<<32 + 1, 1<<33 - 1, 1 << 40, -1 << 32, math.MinInt, math.MaxInt}
}

// none sees to it that no frame stands at the beginning of words.
func none(t *testing.T, epoch, n int, l []uint64) {
	t.Helper()
	if f, takes, ok := Get(epoch, n, l); ok || takes != 0 || f.Kind != 0 || len(f.Words) != 0 {
		t.Errorf("Get(%d, %d) of %d words that begin as %x: %d, %d words, %d, %t", epoch, n, len(l), l[:min(len(l), 4)], f.Kind, len(f.Words), takes, ok)
	}
}

// stands sees to it that a frame stands at the beginning of words.
func stands(t *testing.T, epoch, n int, l []uint64, want api.Frame) {
	t.Helper()
	if f, takes, ok := Get(epoch, n, l); !ok || takes != 1+len(want.Words) || !sameFrame(f, want) {
		t.Errorf("Get(%d, %d) of the kind %d with %d words: %d, %d words, %d, %t", epoch, n, want.Kind, len(want.Words), f.Kind, len(f.Words), takes, ok)
	}
}

// told sees to it that words have these frames as a stream.
func told(t *testing.T, epoch int, l []uint64, want ...api.Frame) {
	t.Helper()
	takes := 0
	for _, f := range want {
		takes += 1 + len(f.Words)
	}
	if all, n := All(epoch, l); n != takes || !sameFrames(all, want) {
		t.Errorf("All(%d) of %d words: %d frames of %d words, not %d of %d", epoch, len(l), len(all), n, len(want), takes)
	}
}

// P6.1: May and Put.

func TestMay(t *testing.T) {
	for kind := -300; kind <= 600; kind++ {
		for _, n := range []int{0, 1, 2, 7, 8, 1999, 2000, 2001, 2002, 4001} {
			want := kind >= 1 && kind <= 255 && n <= 2000
			if May(api.Frame{Kind: kind, Words: make([]uint64, n)}) != want {
				t.Errorf("the kind %d with %d words: not %t", kind, n, want)
			}
		}
	}
	for i, f := range some() {
		if !May(f) {
			t.Error("may not be:", i, f.Kind, len(f.Words))
		}
	}
	for i, f := range wrong() {
		if May(f) {
			t.Error("may be:", i, f.Kind, len(f.Words))
		}
	}
}

func TestMayOfSpareRoom(t *testing.T) {
	if !May(api.Frame{Kind: 1, Words: make([]uint64, 0, most+1)}) || !May(api.Frame{Kind: 1, Words: make([]uint64, most, 2*most)}) {
		t.Error("the room behind a frame's words is counted")
	}
}

func TestTheExampleOfTheDocument(t *testing.T) {
	if l := Put(0, 0, frame(1, 5, 6)); len(l) != 3 || l[1] != 5 || l[2] != 6 {
		t.Errorf("%x", l)
	}
	if l := Put(5, 9, frame(3, 7, 8)); !slices.Equal(l, []uint64{markOf(3, 2, 5, 9, 7, 8), 7, 8}) {
		t.Errorf("%x", l)
	}
	if l := Put(5, 9, frame(3)); !slices.Equal(l, []uint64{markOf(3, 0, 5, 9)}) {
		t.Errorf("%x", l)
	}
}

func TestPut(t *testing.T) {
	for _, epoch := range numbers() {
		for _, n := range numbers() {
			for _, f := range some() {
				if l := Put(epoch, n, f); !slices.Equal(l, wordsOf(epoch, n, f)) {
					t.Errorf("Put(%d, %d) of the kind %d with %d words: %d words", epoch, n, f.Kind, len(f.Words), len(l))
				}
			}
		}
	}
}

func TestPutOfEachKind(t *testing.T) {
	for kind := 1; kind <= 255; kind++ {
		if l := Put(1, 2, frame(kind, 3)); !slices.Equal(l, wordsOf(1, 2, frame(kind, 3))) {
			t.Errorf("the kind %d: %x", kind, l)
		}
	}
}

func TestPutOfWhatMayNotBe(t *testing.T) {
	for _, f := range wrong() {
		for _, n := range append(numbers(), noNumbers()...) {
			if len(Put(0, n, f)) != 0 || len(Put(n, 0, f)) != 0 {
				t.Errorf("the kind %d with %d words, in %d, or as that one", f.Kind, len(f.Words), n)
			}
		}
	}
}

func TestPutOfNoNumber(t *testing.T) {
	for _, f := range some() {
		for _, x := range noNumbers() {
			for _, n := range append(numbers(), noNumbers()...) {
				if len(Put(x, n, f)) != 0 || len(Put(n, x, f)) != 0 {
					t.Errorf("the kind %d with %d words, of %d and %d", f.Kind, len(f.Words), x, n)
				}
			}
		}
	}
}

// P6.2: Get.

func TestGet(t *testing.T) {
	for _, epoch := range numbers() {
		for _, n := range []int{0, 1, 1 << 31, greatest} {
			for _, f := range some() {
				l := wordsOf(epoch, n, f)
				stands(t, epoch, n, l, f)
				stands(t, epoch, n, Put(epoch, n, f), f)
			}
		}
	}
}

func TestGetLeavesWhatStandsBehind(t *testing.T) {
	for _, f := range some() {
		for _, behind := range [][]uint64{
			{0}, make([]uint64, 9), {1}, {math.MaxUint64, 5}, rising(20), wordsOf(5, 9, f), wordsOf(5, 10, f), wordsOf(5, 10, frame(3, 4)),
		} {
			stands(t, 5, 9, append(wordsOf(5, 9, f), behind...), f)
		}
	}
}

func TestGetOfWordsThatAreCut(t *testing.T) {
	for _, f := range some() {
		l := wordsOf(5, 9, f)
		for cut := range l {
			if cut > 20 && cut < len(l)-20 && cut%97 != 0 {
				continue
			}
			none(t, 5, 9, l[:cut])
			none(t, 5, 9, l[:cut:cut])
		}
	}
}

func TestGetOfWordsWithoutTheirMark(t *testing.T) {
	for _, f := range []api.Frame{frame(1), frame(1, 5, 6), frame(128, 0, 0, 0), frame(9, rising(100)...)} {
		none(t, 5, 9, wordsOf(5, 9, f)[1:])
	}
}

func TestGetInAnotherEpochOrAsAnother(t *testing.T) {
	for _, f := range some() {
		for _, epoch := range numbers() {
			for _, n := range numbers() {
				l := wordsOf(epoch, n, f)
				for _, x := range append([]int{epoch + 1, epoch - 1, n + 1, n - 1, epoch ^ 1<<31, n ^ 1<<31}, noNumbers()...) {
					if x != epoch {
						none(t, x, n, l)
					}
					if x != n {
						none(t, epoch, x, l)
					}
				}
				if epoch != n {
					none(t, n, epoch, l)
				}
			}
		}
	}
}

func TestGetWithABitTurned(t *testing.T) {
	for _, f := range []api.Frame{frame(1), frame(255), frame(1, 5, 6), frame(128, 0, 0, 0), frame(9, rising(12)...)} {
		for _, behind := range []int{0, 1, 9} {
			l := append(wordsOf(5, 9, f), make([]uint64, behind)...)
			for i := range 64 * (1 + len(f.Words)) {
				l[i/64] ^= 1 << (i % 64)
				none(t, 5, 9, l)
				l[i/64] ^= 1 << (i % 64)
			}
			stands(t, 5, 9, l, f)
		}
	}
}

func TestGetWithAnotherWord(t *testing.T) {
	l := wordsOf(5, 9, frame(7, rising(most)...))
	for _, i := range []int{0, 1, 2, most / 2, most - 1, most} {
		for _, w := range []uint64{0, 77, math.MaxUint64} {
			was := l[i]
			l[i] = w
			none(t, 5, 9, l)
			l[i] = was
		}
	}
	l[1], l[2] = l[2], l[1]
	none(t, 5, 9, l)
}

func TestGetOfMarksOfOtherWords(t *testing.T) {
	for _, own := range [][]uint64{{}, {0}, {5, 9}, {7, 8}, rising(20)} {
		n := len(own)
		right := markOf(3, n, append([]uint64{5, 9}, own...)...)
		stands(t, 5, 9, append([]uint64{right}, own...), frame(3, own...))
		for _, mark := range []uint64{
			markOf(3, n, own...),
			markOf(3, n, append([]uint64{5}, own...)...),
			markOf(3, n, append([]uint64{9}, own...)...),
			markOf(3, n, append([]uint64{9, 5}, own...)...),
			markOf(3, n, append([]uint64{5 | 9<<32}, own...)...),
			markOf(3, n, append(slices.Clone(own), 5, 9)...),
			markOf(3, n+2, append([]uint64{5, 9}, own...)...),
			markOf(3, n+1, append([]uint64{5, 9}, own...)...),
			3<<56 | uint64(n)<<32 | markOf(4, n, append([]uint64{5, 9}, own...)...)&greatest,
		} {
			// Own words that are none, or 5 and 9 again, make the right mark of one of these.
			if mark != right {
				none(t, 5, 9, append([]uint64{mark}, own...))
			}
		}
	}
}

// TestGetOfWhatMayNotBe reads marks that fit, of frames that may not be.
func TestGetOfWhatMayNotBe(t *testing.T) {
	for _, own := range [][]uint64{{}, {0}, {7, 8}, rising(most)} {
		none(t, 5, 9, wordsOf(5, 9, frame(0, own...)))
	}
	none(t, 0, 0, wordsOf(0, 0, frame(0)))
	for _, kind := range []int{0, 1, 255} {
		for _, n := range []int{most + 1, most + 2, 2 * most, 1 << 16} {
			none(t, 5, 9, wordsOf(5, 9, frame(kind, rising(n)...)))
			none(t, 5, 9, append(wordsOf(5, 9, frame(kind, rising(n)...)), 0, 0))
		}
	}
	stands(t, 5, 9, wordsOf(5, 9, frame(255, rising(most)...)), frame(255, rising(most)...))
}

// TestGetOfNoNumber reads marks that fit, of epochs and numbers that there aren't.
func TestGetOfNoNumber(t *testing.T) {
	for _, f := range some() {
		for _, x := range noNumbers() {
			none(t, x, 0, wordsOf(x, 0, f))
			none(t, 0, x, wordsOf(0, x, f))
			none(t, x, x, wordsOf(x, x, f))
			none(t, x, 0, wordsOf(0, 0, f))
			none(t, 0, x, wordsOf(0, 0, f))
			told(t, x, streamOf(x, []api.Frame{f, f}))
			told(t, x, streamOf(0, []api.Frame{f, f}))
		}
	}
}

func TestGetOfNoWordsAndOfNoMark(t *testing.T) {
	for _, n := range append(numbers(), noNumbers()...) {
		for _, l := range [][]uint64{
			nil, {}, {0}, make([]uint64, 9), make([]uint64, 3000), {1}, {math.MaxUint64}, {1 << 56}, {1<<56 | 1<<32, 0}, {1<<56 | 1<<32},
			slices.Repeat([]uint64{math.MaxUint64}, 100), rising(50), {1<<56 | (1<<24-1)<<32, 1, 2}, {1<<56 | 2001<<32},
		} {
			none(t, 0, n, l)
			none(t, n, 0, l)
			none(t, n, n, l)
			told(t, n, l)
		}
	}
}

// P6.3: All and Stream.

// streams has lists of frames that all may be.
func streams() [][]api.Frame {
	return [][]api.Frame{
		nil, {}, {frame(1)}, {frame(1), frame(1)}, {frame(1, 5, 6)}, {frame(3, 7, 8), frame(1), frame(2, 0)},
		{frame(2, 0), frame(2, 0), frame(2, 0)}, {frame(1), frame(255, 1), frame(9, rising(9)...), frame(4), frame(4)},
		{frame(5, make([]uint64, most)...), frame(1), frame(6, rising(most)...)}, {frame(1), frame(1, 0, 0, 0, 0)}, some(),
	}
}

func TestAll(t *testing.T) {
	for _, epoch := range numbers() {
		for _, l := range streams() {
			told(t, epoch, streamOf(epoch, l), l...)
		}
	}
}

func TestStream(t *testing.T) {
	for _, epoch := range numbers() {
		for _, l := range streams() {
			if words := Stream(epoch, l); !slices.Equal(words, streamOf(epoch, l)) {
				t.Errorf("Stream(%d) of %d frames: %d words, not %d", epoch, len(l), len(words), len(streamOf(epoch, l)))
			}
		}
	}
}

func TestAStreamOfNoFrames(t *testing.T) {
	for _, epoch := range append(numbers(), noNumbers()...) {
		if len(Stream(epoch, nil)) != 0 || len(Stream(epoch, []api.Frame{})) != 0 {
			t.Error("no frames have words, in", epoch)
		}
		told(t, epoch, nil)
		told(t, epoch, []uint64{})
	}
}

func TestStreamOfNoEpoch(t *testing.T) {
	for _, epoch := range noNumbers() {
		for _, l := range streams() {
			if words := Stream(epoch, l); len(words) != 0 {
				t.Errorf("Stream(%d) of %d frames: %d words", epoch, len(l), len(words))
			}
		}
	}
}

func TestStreamWithOneThatMayNotBe(t *testing.T) {
	for _, bad := range wrong() {
		for _, l := range streams() {
			for at := range len(l) + 1 {
				with := slices.Insert(slices.Clone(l), at, bad)
				if words := Stream(5, with); len(words) != 0 {
					t.Errorf("%d frames, of which the one at %d may not be: %d words", len(with), at, len(words))
				}
			}
		}
	}
}

func TestAllOfAnotherEpoch(t *testing.T) {
	for _, l := range streams() {
		for _, x := range append([]int{0, 4, 6, greatest}, noNumbers()...) {
			told(t, x, streamOf(5, l))
		}
	}
}

func TestAllEndsAtOneThatIsNotTheNext(t *testing.T) {
	a, b, c := frame(3, 7, 8), frame(1), frame(2, 0)
	join := func(parts ...[]uint64) []uint64 { return slices.Concat(parts...) }
	last := wordsOf(5, 2, c)
	for i, second := range [][]uint64{
		wordsOf(5, 0, b), wordsOf(5, 2, b), wordsOf(4, 1, b), wordsOf(6, 1, b), wordsOf(1, 5, b), wordsOf(5, 1, frame(0)), wordsOf(5, 1, frame(0, 1)),
		wordsOf(5, 1, frame(1, rising(most+1)...)), {0}, {1}, {math.MaxUint64}, wordsOf(5, 0, a), {markOf(1, 0)}, join([]uint64{0}, wordsOf(5, 1, b)), last,
	} {
		if all, n := All(5, join(wordsOf(5, 0, a), second, last)); n != 3 || !sameFrames(all, []api.Frame{a}) {
			t.Error(i, all, n)
		}
	}
	told(t, 5, join(wordsOf(5, 0, a), wordsOf(5, 1, b), last), a, b, c)
	told(t, 5, join(wordsOf(5, 1, a), wordsOf(5, 0, b)))
	told(t, 5, join(wordsOf(5, 1, a), wordsOf(5, 2, b)))
	told(t, 5, join([]uint64{0}, wordsOf(5, 0, a)))
}

func TestAllEndsAtABitThatIsTurned(t *testing.T) {
	l := []api.Frame{frame(3, 7, 8), frame(1), frame(2, 0), frame(255, 9)}
	words, ends := streamOf(5, l), endsOf(l)
	for i := range 64 * len(words) {
		words[i/64] ^= 1 << (i % 64)
		told(t, 5, words, l[:wholeAt(ends, i/64)]...)
		words[i/64] ^= 1 << (i % 64)
	}
}

// endsOf tells where each frame of a stream ends.
func endsOf(l []api.Frame) []int {
	var ends []int
	end := 0
	for _, f := range l {
		end += 1 + len(f.Words)
		ends = append(ends, end)
	}
	return ends
}

// wholeAt tells how many frames end at a place, or ahead of it.
func wholeAt(ends []int, at int) int {
	n := 0
	for _, end := range ends {
		if end <= at {
			n++
		}
	}
	return n
}

func TestTheFramesAreYieldedUntilLeft(t *testing.T) {
	l := some()
	words, ends := streamOf(5, l), endsOf(l)
	for leave := range l {
		n := 0
		for f, end := range each(5, words) {
			if !sameFrame(f, l[n]) || end != ends[n] {
				t.Error("yielded:", n, f.Kind, end)
			}
			if n++; n > leave {
				break
			}
		}
		if n != leave+1 {
			t.Error("left behind", leave+1, "and yielded", n)
		}
	}
}

// randomFrame tells a frame that may be, of few kinds and words, so that many look alike.
func randomFrame(rnd *rand.Rand) api.Frame {
	f := api.Frame{Kind: []int{1, 2, 255}[rnd.Intn(3)]}
	for range rnd.Intn(4) {
		f.Words = append(f.Words, uint64(rnd.Intn(3)))
	}
	return f
}

// randomFrames tells frames that may be.
func randomFrames(rnd *rand.Rand, n int) []api.Frame {
	var l []api.Frame
	for range n {
		l = append(l, randomFrame(rnd))
	}
	return l
}

// TestAgainstTheModel lays words together of frames of this epoch and another one, in this order and another one, of zeros and of any words.
func TestAgainstTheModel(t *testing.T) {
	rnd := rand.New(rand.NewSource(1))
	for range 5000 {
		var words []uint64
		epoch, n := rnd.Intn(2), 0
		for range rnd.Intn(8) {
			switch f := randomFrame(rnd); rnd.Intn(12) {
			case 0:
				words = append(words, uint64(rnd.Intn(2)))
			case 1:
				words = append(words, wordsOf(1-epoch, n, f)...)
			case 2:
				words = append(words, wordsOf(epoch, rnd.Intn(4), f)...)
			case 3:
				words = append(words, wordsOf(epoch, n, frame(0, f.Words...))...)
			default:
				words = append(words, wordsOf(epoch, n, f)...)
			}
			n++
		}
		words = words[:len(words)-rnd.Intn(min(3, len(words)+1))]
		want, takes := modelAll(epoch, words)
		if all, n := All(epoch, words); n != takes || !sameFrames(all, want) {
			t.Fatalf("All(%d) of %x: %v, %d, not %v, %d", epoch, words, all, n, want, takes)
		}
		if first, ok := modelFirst(epoch, 0, words); ok {
			stands(t, epoch, 0, words, first)
		} else {
			none(t, epoch, 0, words)
		}
	}
}

// P6.4: frames that are put as a stream are all told, whatever zeros stand behind them; cut anywhere, those ahead of the cut are told.

func TestAStreamIsTold(t *testing.T) {
	for _, epoch := range numbers() {
		for _, l := range streams() {
			words := Stream(epoch, l)
			for _, zeros := range []int{0, 1, 2, 7, 8, 9, 100, most, most + 1, 3 * most} {
				told(t, epoch, append(slices.Clone(words), make([]uint64, zeros)...), l...)
			}
		}
	}
}

func TestAStreamIsToldWhateverStandsInItsFrames(t *testing.T) {
	inner := Stream(5, []api.Frame{frame(1), frame(2, 3), frame(4, 0, 0)})
	for _, l := range [][]api.Frame{
		{frame(1, inner...), frame(2, inner...)}, {frame(1), frame(2, inner...), frame(1)},
		{frame(1, wordsOf(5, 1, frame(1))...), frame(1)}, {frame(1, 0), frame(1, 0, 0), frame(1), frame(1, 0)},
	} {
		told(t, 5, Stream(5, l), l...)
		told(t, 5, append(Stream(5, l), 0, 0, 0), l...)
	}
}

func TestAStreamThatIsCut(t *testing.T) {
	for _, l := range streams()[:10] {
		words, ends := Stream(5, l), endsOf(l)
		for cut := range len(words) + 1 {
			if len(words) > 100 && cut%89 != 0 && !slices.Contains(ends, cut) && !slices.Contains(ends, cut+1) {
				continue
			}
			told(t, 5, words[:cut], l[:wholeAt(ends, cut)]...)
			told(t, 5, words[:cut:cut], l[:wholeAt(ends, cut)]...)
		}
	}
}

// TestAStreamThatIsCutAndHasZerosBehind tells those ahead of the cut, and one behind it only where what it lost were zeros.
func TestAStreamThatIsCutAndHasZerosBehind(t *testing.T) {
	rnd := rand.New(rand.NewSource(2))
	for range 300 {
		l := randomFrames(rnd, rnd.Intn(8))
		words, ends := Stream(5, l), endsOf(l)
		for cut := range len(words) + 1 {
			torn := append(slices.Clone(words[:cut]), make([]uint64, len(words)-cut+rnd.Intn(9))...)
			whole := wholeAt(ends, cut)
			for whole < len(l) && slices.Equal(torn[:ends[whole]], words[:ends[whole]]) {
				whole++
			}
			told(t, 5, torn, l[:whole]...)
		}
	}
}

func TestAStreamOverAnotherEpochs(t *testing.T) {
	rnd := rand.New(rand.NewSource(3))
	for range 500 {
		under := Stream(4, randomFrames(rnd, 12))
		l := randomFrames(rnd, rnd.Intn(6))
		words := Stream(5, l)
		over := slices.Clone(under)
		over = append(words, over[min(len(words), len(over)):]...)
		told(t, 5, over, l...)
	}
}

func TestManyFrames(t *testing.T) {
	l := make([]api.Frame, 1<<16+10)
	for i := range l {
		l[i] = frame(1+i%255, rising(i%3)...)
	}
	words := Stream(greatest, l)
	told(t, greatest, append(words, 0), l...)
	told(t, greatest, words[:len(words)-1], l[:len(l)-1]...)
}

// The rules that hold everywhere.

// withRoom tells a copy of words with spare room behind it, and all of that memory.
func withRoom(l []uint64) ([]uint64, []uint64) {
	room := append(slices.Clone(l), 77, 78, 0, 79)
	return room[:len(l)], room
}

func TestWhatIsHandedInIsLeftAsItWas(t *testing.T) {
	for _, f := range append(some(), wrong()...) {
		own, roomOfOwn := withRoom(f.Words)
		wasOwn := slices.Clone(roomOfOwn)
		g := api.Frame{Kind: f.Kind, Words: own}
		frames := []api.Frame{g, frame(1), g, frame(9, 1), g}
		May(g)
		Put(5, 9, g)
		Stream(5, frames[:2])
		Stream(5, frames[:0])
		if !slices.Equal(roomOfOwn, wasOwn) || !sameFrames(frames, []api.Frame{g, frame(1), g, frame(9, 1), g}) {
			t.Errorf("a frame that was handed in was changed: %d with %d words", f.Kind, len(f.Words))
		}
		words, roomOfWords := withRoom(append(wordsOf(5, 0, f), wordsOf(5, 1, f)...))
		wasWords := slices.Clone(roomOfWords)
		Get(5, 0, words)
		Get(5, 1, words)
		All(5, words)
		All(4, words)
		if !slices.Equal(roomOfWords, wasWords) {
			t.Errorf("words that were handed in were changed: those of %d with %d words", f.Kind, len(f.Words))
		}
	}
}

// spoil writes over a list, its spare room too.
func spoil(l []uint64) {
	all := l[:cap(l)]
	for i := range all {
		all[i] = 0xbad
	}
}

// spoilFrames writes over frames and their words, and over all spare room.
func spoilFrames(l []api.Frame) {
	all := l[:cap(l)]
	for i := range all {
		spoil(all[i].Words)
		all[i] = frame(99, 99)
	}
}

func TestWordsThatArePutAreNewMemory(t *testing.T) {
	for _, f := range some() {
		own := slices.Clone(f.Words)
		g := api.Frame{Kind: f.Kind, Words: own}
		first, second := Put(5, 0, g), Put(5, 0, g)
		all, again := Stream(5, []api.Frame{g, g}), Stream(5, []api.Frame{g, g})
		spoil(first)
		spoil(all)
		if !slices.Equal(own, f.Words) {
			t.Error("words share memory with a frame that was handed in")
		}
		spoil(own)
		if !slices.Equal(second, wordsOf(5, 0, f)) || !slices.Equal(again, streamOf(5, []api.Frame{f, f})) {
			t.Error("words share memory with others, or with what was handed in")
		}
	}
}

func TestFramesThatAreToldAreNewMemory(t *testing.T) {
	for _, f := range some() {
		l := []api.Frame{f, frame(1), f, frame(2, 3)}
		words := streamOf(5, l)
		was := slices.Clone(words)
		first, _, _ := Get(5, 0, words)
		second, _, _ := Get(5, 0, words)
		all, _ := All(5, words)
		again, _ := All(5, words)
		spoil(first.Words)
		spoilFrames(all)
		if !slices.Equal(words, was) {
			t.Error("a frame that was told shares memory with what was handed in")
		}
		spoil(words)
		if !sameFrame(second, f) || !sameFrames(again, l) {
			t.Error("a frame that was told shares memory with another one, or with what was handed in")
		}
	}
}

func TestFramesOfOneAnswerShareNothing(t *testing.T) {
	l := []api.Frame{frame(1, 5, 6), frame(2), frame(3, 7), frame(4, rising(20)...), frame(5), frame(6, 8)}
	for i := range l {
		all, _ := All(5, streamOf(5, l))
		spoil(all[i].Words)
		all[i].Words = l[i].Words
		if !sameFrames(all, l) {
			t.Error("others share memory with the frame", i)
		}
	}
}

func TestWhatWasToldStays(t *testing.T) {
	l := copied(some())
	words := Stream(5, l)
	wasWords := slices.Clone(words)
	all, _ := All(5, words)
	for range 3 {
		Stream(6, []api.Frame{frame(9, 9, 9, 9)})
		All(5, Stream(5, []api.Frame{frame(8, 8)}))
		Get(5, 0, words)
		Put(7, 7, l[3])
	}
	if !slices.Equal(words, wasWords) || !sameFrames(all, some()) || !sameFrames(l, some()) {
		t.Error("what was told was changed")
	}
}

func TestAnswersHangOnNothingElse(t *testing.T) {
	for range 3 {
		for _, f := range some() {
			if !slices.Equal(Put(5, 9, f), wordsOf(5, 9, f)) {
				t.Error("the words of a frame hang on what was done ahead")
			}
			stands(t, 5, 9, wordsOf(5, 9, f), f)
			none(t, 5, 8, wordsOf(5, 9, f))
			Stream(9, wrong())
		}
	}
}
