package codes

import (
	"math"
	"math/rand"
	"slices"
	"strings"
	"testing"
)

// written tells the record that calls write.
func written(calls ...func(w *Writer)) []uint64 {
	var w Writer
	for _, call := range calls {
		call(&w)
	}
	return w.Done()
}

// P1.1: what each call writes.

func TestWriterCount(t *testing.T) {
	for _, c := range []struct {
		n    int
		want uint64
	}{
		{0, 0}, {1, 1}, {5, 5}, {math.MaxInt, math.MaxInt}, {-1, 0}, {-3, 0}, {math.MinInt, 0},
	} {
		if l := written(func(w *Writer) { w.Count(c.n) }); !slices.Equal(l, []uint64{c.want}) {
			t.Errorf("Count(%d): %d, not %d", c.n, l, c.want)
		}
	}
}

func TestWriterSigned(t *testing.T) {
	for _, c := range []struct {
		x    int64
		want uint64
	}{
		{0, 0}, {-1, 1}, {1, 2}, {-2, 3}, {2, 4}, {-3, 5},
		{1 << 62, 1 << 63}, {math.MaxInt64, math.MaxUint64 - 1}, {math.MinInt64, math.MaxUint64},
	} {
		if l := written(func(w *Writer) { w.Signed(c.x) }); !slices.Equal(l, []uint64{c.want}) {
			t.Errorf("Signed(%d): %d, not %d", c.x, l, c.want)
		}
	}
}

func TestWriterFlag(t *testing.T) {
	l := written(func(w *Writer) { w.Flag(true) }, func(w *Writer) { w.Flag(false) })
	if !slices.Equal(l, []uint64{1, 0}) {
		t.Error(l)
	}
}

// texts has texts and their records: 64 bytes are the most, and a cut may go through the midst of a letter.
func texts() []struct {
	s    string
	want []uint64
} {
	const x8 = 0x7878787878787878
	full := []uint64{64, x8, x8, x8, x8, x8, x8, x8, x8}
	cut := slices.Clone(full)
	cut[8] = 0xc3<<56 | x8&(1<<56-1)
	return []struct {
		s    string
		want []uint64
	}{
		{"", []uint64{0}},
		{"ab", []uint64{2, 25185}},
		{"\x00", []uint64{1, 0}},
		{"a\x00b\x00", []uint64{4, 0x620061}},
		{"\xff\xfe", []uint64{2, 0xfeff}},
		{"abcdefg", []uint64{7, 0x67666564636261}},
		{"abcdefgh", []uint64{8, 0x6867666564636261}},
		{"abcdefghi", []uint64{9, 0x6867666564636261, 0x69}},
		{strings.Repeat("x", 63), append([]uint64{63}, x8, x8, x8, x8, x8, x8, x8, x8>>8)},
		{strings.Repeat("x", 64), full},
		{strings.Repeat("x", 65), full},
		{strings.Repeat("x", 1000), full},
		{strings.Repeat("x", 63) + "\u00e4", cut},
	}
}

func TestWriterText(t *testing.T) {
	for _, c := range texts() {
		if l := written(func(w *Writer) { w.Text(c.s) }); !slices.Equal(l, c.want) {
			t.Errorf("Text(%q): %x, not %x", c.s, l, c.want)
		}
	}
}

func TestWriterWords(t *testing.T) {
	for _, l := range [][]uint64{nil, {}, {0}, {7, 8}, {math.MaxUint64, 0, 1}, make([]uint64, 100)} {
		want := append([]uint64{uint64(len(l))}, l...)
		if got := written(func(w *Writer) { w.Words(l) }); !slices.Equal(got, want) {
			t.Errorf("Words(%d): %d", l, got)
		}
	}
}

func TestWriterWritesBehind(t *testing.T) {
	var w Writer
	if l := w.Done(); len(l) != 0 {
		t.Error("the zero value has", l)
	}
	var want []uint64
	for i, call := range []func(){
		func() { w.Count(9) }, func() { w.Signed(-5) }, func() { w.Flag(true) }, func() { w.Text("ab") }, func() { w.Words([]uint64{4}) },
	} {
		call()
		want = append(want, [][]uint64{{9}, {9}, {1}, {2, 25185}, {1, 4}}[i]...)
		if l := w.Done(); !slices.Equal(l, want) {
			t.Errorf("behind call %d: %d, not %d", i, l, want)
		}
	}
}

func TestWriterSharesNoMemory(t *testing.T) {
	var w Writer
	given := []uint64{5, 6, 7, 8}
	w.Words(given[:2])
	first := w.Done()
	if !slices.Equal(given, []uint64{5, 6, 7, 8}) {
		t.Error("what was handed in was changed:", given)
	}
	given[0] = 50
	if l := w.Done(); !slices.Equal(l, []uint64{2, 5, 6}) {
		t.Error("what was handed in is kept:", l)
	}
	for i := range first {
		first[i] = 99
	}
	first = append(first, 99)
	w.Count(3)
	if l := w.Done(); !slices.Equal(l, []uint64{2, 5, 6, 3}) || !slices.Equal(first, []uint64{99, 99, 99, 99}) {
		t.Error("an answer is kept:", l, first)
	}
}

// P1.2: what a Reader tells of right records.

func TestReaderCount(t *testing.T) {
	for _, c := range []struct {
		word uint64
		most int
	}{
		{0, 0}, {0, 5}, {5, 5}, {4, 5}, {math.MaxInt, math.MaxInt},
	} {
		r := NewReader([]uint64{c.word})
		if n := r.Count(c.most); uint64(n) != c.word || !r.Ok() || !r.End() {
			t.Errorf("Count(%d) of %d: %d", c.most, c.word, n)
		}
	}
}

func TestReaderSigned(t *testing.T) {
	words := []uint64{0, 1, 2, 3, 4, 5, 1 << 63, math.MaxUint64 - 1, math.MaxUint64}
	r := NewReader(words)
	for i, want := range []int64{0, -1, 1, -2, 2, -3, 1 << 62, math.MaxInt64, math.MinInt64} {
		if x := r.Signed(); x != want || !r.Ok() {
			t.Errorf("Signed of %d: %d, not %d", words[i], x, want)
		}
	}
	if !r.End() {
		t.Error("something is left")
	}
}

func TestReaderFlag(t *testing.T) {
	r := NewReader([]uint64{1, 0})
	if !r.Flag() || r.Flag() || !r.Ok() || !r.End() {
		t.Error("Flag")
	}
}

func TestReaderText(t *testing.T) {
	for _, c := range texts() {
		r := NewReader(c.want)
		want := c.s[:min(len(c.s), 64)]
		if s := r.Text(); s != want || !r.Ok() || !r.End() {
			t.Errorf("Text of %x: %q, not %q", c.want, s, want)
		}
	}
}

func TestReaderWords(t *testing.T) {
	for _, c := range []struct {
		record []uint64
		most   int
		want   []uint64
	}{
		{[]uint64{0}, 0, nil}, {[]uint64{0}, 3, nil}, {[]uint64{2, 7, 8}, 2, []uint64{7, 8}},
		{[]uint64{2, 7, math.MaxUint64}, math.MaxInt, []uint64{7, math.MaxUint64}},
	} {
		r := NewReader(c.record)
		if l := r.Words(c.most); !slices.Equal(l, c.want) || !r.Ok() || !r.End() {
			t.Errorf("Words(%d) of %d: %d", c.most, c.record, l)
		}
	}
}

func TestReaderEnd(t *testing.T) {
	for _, l := range [][]uint64{nil, {}} {
		if r := NewReader(l); !r.Ok() || !r.End() {
			t.Error("an empty record is right, and at its end")
		}
	}
	r := NewReader([]uint64{1, 2, 97, 1, 5})
	if !r.Ok() || r.End() {
		t.Error("nothing was read, and all is left")
	}
	if n := r.Count(9); n != 1 || !r.Ok() || r.End() {
		t.Error("a count was read, and more is left", n)
	}
	if x := r.Signed(); x != 1 || !r.Ok() || r.End() {
		t.Error("a number was read, and more is left", x)
	}
	if r.Signed(); !r.Ok() || r.End() {
		t.Error("words are left")
	}
	if l := r.Words(9); !slices.Equal(l, []uint64{5}) || !r.Ok() || !r.End() {
		t.Error("nothing is left", l)
	}
	if !r.Ok() || !r.End() {
		t.Error("to ask changes nothing")
	}
}

func TestReaderSharesNoMemory(t *testing.T) {
	record := []uint64{2, 7, 8, 3}
	r := NewReader(record[:3])
	record[0], record[1], record[2] = 1, 99, 99
	l := r.Words(2)
	if !slices.Equal(l, []uint64{7, 8}) || !r.End() {
		t.Error("the record is kept:", l)
	}
	r = NewReader([]uint64{1, 7, 3, 4})
	l = r.Words(1)
	l[0] = 99
	l = append(l, 99, 99)
	if n, m := r.Count(9), r.Count(9); n != 3 || m != 4 || !slices.Equal(l, []uint64{99, 99, 99}) {
		t.Error("an answer shares memory with the reader:", n, m, l)
	}
	again := []uint64{1, 7, 2, 97}
	r = NewReader(again)
	r.Words(1)
	r.Text()
	if !slices.Equal(again, []uint64{1, 7, 2, 97}) {
		t.Error("the record was changed:", again)
	}
}

// P1.2: what isn't right.

// wrongReads has records, and calls that aren't right there; words behind a fault would be right, so that a reader that goes on is found out.
func wrongReads() map[string]struct {
	record []uint64
	zero   func(r *Reader) bool
} {
	type wrong = struct {
		record []uint64
		zero   func(r *Reader) bool
	}
	count := func(most int) func(r *Reader) bool { return func(r *Reader) bool { return r.Count(most) == 0 } }
	words := func(most int) func(r *Reader) bool { return func(r *Reader) bool { return len(r.Words(most)) == 0 } }
	text := func(r *Reader) bool { return r.Text() == "" }
	flag := func(r *Reader) bool { return !r.Flag() }
	signed := func(r *Reader) bool { return r.Signed() == 0 }
	long := append([]uint64{65}, slices.Repeat([]uint64{0x78}, 12)...)
	return map[string]wrong{
		"no word for a count":                {nil, count(9)},
		"no word for a number":               {nil, signed},
		"no word for a flag":                 {nil, flag},
		"no word for a text":                 {nil, text},
		"no word for words":                  {nil, words(9)},
		"a count one above its most":         {[]uint64{6, 1, 1}, count(5)},
		"a count above a most of 0":          {[]uint64{1, 1, 1}, count(0)},
		"a count above a most below 0":       {[]uint64{0, 1, 1}, count(-1)},
		"a count above the least most":       {[]uint64{1 << 63, 1, 1}, count(math.MinInt)},
		"a count above all numbers":          {[]uint64{1 << 63, 1, 1}, count(math.MaxInt)},
		"a count of all bits":                {[]uint64{math.MaxUint64, 1, 1}, count(math.MaxInt)},
		"a flag of 2":                        {[]uint64{2, 1, 1}, flag},
		"a flag of all bits":                 {[]uint64{math.MaxUint64, 1, 1}, flag},
		"a flag with a high bit":             {[]uint64{1<<63 | 1, 1, 1}, flag},
		"a text of 65 bytes":                 {long, text},
		"a text of a count of all bits":      {[]uint64{math.MaxUint64, 1, 1}, text},
		"a text without its word":            {[]uint64{1}, text},
		"a text without its second word":     {[]uint64{9, 1}, text},
		"a text with a byte behind it":       {[]uint64{1, 0x161, 1, 1}, text},
		"a text with a bit in the last byte": {[]uint64{7, 1<<63 | 0x67666564636261, 1, 1}, text},
		"a text with a byte in its 2nd word": {[]uint64{9, 0x6867666564636261, 0x6a69, 1, 1}, text},
		"words above their most":             {[]uint64{3, 1, 1, 1, 1}, words(2)},
		"words above a most below 0":         {[]uint64{0, 1, 1}, words(-1)},
		"words without the last one":         {[]uint64{3, 1, 1}, words(9)},
		"words without any":                  {[]uint64{1}, words(9)},
		"words of a great count":             {[]uint64{math.MaxInt, 1, 1}, words(math.MaxInt)},
		"words of a count above all numbers": {[]uint64{1 << 63, 1, 1}, words(math.MaxInt)},
	}
}

// zeros says whether every call of a reader tells a zero, and that it isn't right.
func zeros(r *Reader) bool {
	return r.Count(9) == 0 && !r.Ok() && r.Signed() == 0 && !r.Ok() && !r.Flag() && !r.Ok() &&
		r.Text() == "" && !r.Ok() && len(r.Words(9)) == 0 && !r.Ok() && !r.End()
}

func TestReaderNotRight(t *testing.T) {
	for name, c := range wrongReads() {
		r := NewReader(c.record)
		if !c.zero(r) {
			t.Error(name, "- the call itself tells something")
		}
		if r.Ok() || r.End() {
			t.Error(name, "- it is still right")
		}
		if !zeros(r) || !zeros(r) {
			t.Error(name, "- a later call tells something")
		}
	}
}

func TestReaderNotRightFromThenOn(t *testing.T) {
	for name, c := range wrongReads() {
		record := append([]uint64{3, 2, 97}, c.record...)
		r := NewReader(record)
		if r.Count(3) != 3 || r.Signed() != 1 || r.Signed() != -49 || !r.Ok() {
			t.Error(name, "- what stands ahead of it is right")
		}
		if !c.zero(r) || r.Ok() || r.End() || !zeros(r) {
			t.Error(name, "- behind what is right")
		}
	}
}

func TestReaderNotRightByEachCall(t *testing.T) {
	for i, later := range []func(r *Reader) bool{
		func(r *Reader) bool { return r.Count(9) == 0 },
		func(r *Reader) bool { return r.Signed() == 0 },
		func(r *Reader) bool { return !r.Flag() },
		func(r *Reader) bool { return r.Text() == "" },
		func(r *Reader) bool { return len(r.Words(9)) == 0 },
	} {
		r := NewReader([]uint64{2, 1, 1, 1})
		if r.Flag() || !later(r) || r.Ok() || r.End() {
			t.Error("the call", i, "behind a flag that isn't one")
		}
	}
}

// P1.3: what was written is read by the same calls.

// roundTrip is a call of a Writer, and whether the same call of a Reader tells what was written.
type roundTrip struct {
	write func(w *Writer)
	read  func(r *Reader) bool
}

func randomTrip(rnd *rand.Rand) roundTrip {
	switch rnd.Intn(5) {
	case 0:
		n := int(rnd.Uint64()) >> rnd.Intn(64)
		want := max(n, 0)
		return roundTrip{func(w *Writer) { w.Count(n) }, func(r *Reader) bool { return r.Count(want) == want }}
	case 1:
		x := int64(rnd.Uint64()) >> rnd.Intn(64)
		return roundTrip{func(w *Writer) { w.Signed(x) }, func(r *Reader) bool { return r.Signed() == x }}
	case 2:
		b := rnd.Intn(2) == 1
		return roundTrip{func(w *Writer) { w.Flag(b) }, func(r *Reader) bool { return r.Flag() == b }}
	case 3:
		b := make([]byte, rnd.Intn(70))
		rnd.Read(b)
		want := string(b[:min(len(b), 64)])
		return roundTrip{func(w *Writer) { w.Text(string(b)) }, func(r *Reader) bool { return r.Text() == want }}
	}
	l := make([]uint64, rnd.Intn(5))
	for i := range l {
		l[i] = rnd.Uint64() >> rnd.Intn(64)
	}
	return roundTrip{func(w *Writer) { w.Words(l) }, func(r *Reader) bool { return slices.Equal(r.Words(len(l)), l) }}
}

func TestRoundTrips(t *testing.T) {
	rnd := rand.New(rand.NewSource(1))
	for range 2000 {
		var w Writer
		var trips []roundTrip
		for range rnd.Intn(12) {
			trip := randomTrip(rnd)
			trip.write(&w)
			trips = append(trips, trip)
		}
		record := w.Done()
		r := NewReader(record)
		for i, trip := range trips {
			if !trip.read(r) || !r.Ok() {
				t.Fatalf("the call %d of %x", i, record)
			}
		}
		if !r.End() {
			t.Fatalf("something is left of %x", record)
		}
		// A record that lacks words, wherever it ends, is never right all through.
		for n := range len(record) {
			r := NewReader(record[:n])
			for _, trip := range trips {
				trip.read(r)
			}
			if r.Ok() || r.End() {
				t.Fatalf("%d words of %x", n, record)
			}
		}
	}
}

// What a reader takes for right has one record only: written again, it is the same words.
func TestReadThenWrittenIsTheSame(t *testing.T) {
	rnd := rand.New(rand.NewSource(2))
	for range 5000 {
		record := make([]uint64, 1+rnd.Intn(4))
		for i := range record {
			record[i] = rnd.Uint64() >> rnd.Intn(64)
		}
		record[0] = uint64(rnd.Intn(30))
		for i, again := range []func(r *Reader, w *Writer){
			func(r *Reader, w *Writer) { w.Count(r.Count(20)) },
			func(r *Reader, w *Writer) { w.Signed(r.Signed()) },
			func(r *Reader, w *Writer) { w.Flag(r.Flag()) },
			func(r *Reader, w *Writer) { w.Text(r.Text()) },
			func(r *Reader, w *Writer) { w.Words(r.Words(20)) },
		} {
			var w Writer
			r := NewReader(record)
			again(r, &w)
			if l := w.Done(); r.Ok() && !slices.Equal(l, record[:len(l)]) {
				t.Fatalf("the call %d: %x of %x", i, l, record)
			}
		}
	}
}
