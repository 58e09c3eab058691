package op

import (
	"bytes"
	"math"
	"math/rand"
	"slices"
	"strings"
	"testing"

	"copyist/api"
	"copyist/ident"
	"copyist/pack"
	"copyist/span"
)

// The limits as numbers, as the document says them, not as the program takes them.
const (
	mostN      = 268435456
	mostSeq    = 268435456
	mostText   = 64
	mostNames  = 1024
	mostSpans  = 1024
	mostWriter = 65535
)

func id(r uint16, n uint32) ident.ID { return ident.ID{R: r, N: n} }

func sp(r uint16, n uint32, length int) span.Span { return span.Span{ID: id(r, n), Len: length} }

// one are spans that have so many names.
func one(length int) []span.Span { return []span.Span{sp(1, 1, length)} }

// singles are spans of one name, each in a replica of its own.
func singles(count int) []span.Span {
	var l []span.Span
	for i := range count {
		l = append(l, sp(uint16(i), 1, 1))
	}
	return l
}

// same tells whether two operations have the same fields; lists that are nil and empty are one.
func same(a, b Op) bool {
	return a.Kind == b.Kind && a.Anchor == b.Anchor && a.N == b.N && a.Text == b.Text && slices.Equal(a.Spans, b.Spans) && a.Seq == b.Seq
}

// letters is what each kind has, by the head of the chapter: a its anchor and its number, t its text, s its spans, q its transaction.
func letters(kind int) string { return []string{"", "at", "s", "as", "q", "q"}[kind] }

func has(kind int, letter string) bool { return strings.Contains(letters(kind), letter) }

// allPlain are all the bytes that may stand in a text.
const allPlain = "\n !\"#$%&'()*+,-./0123456789:;<=>?@ABCDEFGHIJKLMNOPQRSTUVWXYZ[\\]^_`abcdefghijklmnopqrstuvwxyz{|}~"

func plainText(s string) bool { return strings.Trim(s, allPlain) == "" }

// plainAtoms is the reference for Atoms, name by name.
func plainAtoms(o Op) int {
	if has(o.Kind, "t") {
		return len(o.Text)
	}
	count := 0
	if has(o.Kind, "a") {
		for _, s := range o.Spans {
			for range s.Len {
				count++
			}
		}
	}
	return count
}

// plainFit is the reference for Fit: all that is wrong, in the order of the promise, of which the first one is told.
func plainFit(o Op) api.Errno {
	if o.Kind < 1 || o.Kind > 5 {
		return api.ErrForm
	}
	var wrong []api.Errno
	when := func(bad bool, e api.Errno) {
		if bad {
			wrong = append(wrong, e)
		}
	}
	when(!has(o.Kind, "a") && (o.Anchor.R != 0 || o.Anchor.N != 0 || o.N != 0), api.ErrForm)
	when(!has(o.Kind, "t") && len(o.Text) > 0, api.ErrForm)
	when(!has(o.Kind, "s") && len(o.Spans) > 0, api.ErrForm)
	when(!has(o.Kind, "q") && o.Seq != 0, api.ErrForm)
	when(has(o.Kind, "t") && (len(o.Text) == 0 || !plainText(o.Text)), api.ErrForm)
	when(has(o.Kind, "t") && len(o.Text) > mostText, api.ErrLong)
	if has(o.Kind, "s") {
		when(span.Fit(o.Spans...) != api.OK, span.Fit(o.Spans...))
	}
	when(has(o.Kind, "q") && (o.Seq == 0 || o.Seq > mostSeq), api.ErrForm)
	if len(wrong) > 0 {
		return wrong[0]
	}
	if !has(o.Kind, "a") {
		return api.OK
	}
	when(o.Anchor.N > mostN || o.Anchor.N == 0 && o.Anchor.R != 0, api.ErrForm)
	for i := range plainAtoms(o) {
		n := int64(o.N) + int64(i)
		when(n < 1 || n > mostN, api.ErrForm)
	}
	if len(wrong) > 0 {
		return wrong[0]
	}
	return api.OK
}

// number is the reference for a number's bytes.
func number(n int) []byte {
	if n < 128 {
		return []byte{byte(n)}
	}
	return append([]byte{byte(n%128) + 128}, number(n/128)...)
}

// written are numbers, one behind the other.
func written(numbers ...int) []byte {
	var out []byte
	for _, n := range numbers {
		out = append(out, number(n)...)
	}
	return out
}

func plainPut(o Op) []byte {
	out := number(o.Kind)
	if has(o.Kind, "a") {
		out = append(out, written(int(o.Anchor.R), int(o.Anchor.N), int(o.N))...)
	}
	if has(o.Kind, "t") {
		out = append(append(out, number(len(o.Text))...), o.Text...)
	}
	if has(o.Kind, "s") {
		out = append(out, number(len(o.Spans))...)
		for _, s := range o.Spans {
			out = append(out, written(int(s.ID.R), int(s.ID.N), s.Len)...)
		}
	}
	if has(o.Kind, "q") {
		out = append(out, number(int(o.Seq))...)
	}
	return out
}

// bits reads bytes by the chapters of layers 5, 7 and 8, and stops at what is wrong of them.
type bits struct {
	left  []byte
	wrong api.Errno
}

func (b *bits) number(limit int) int {
	if b.wrong != api.OK {
		return 0
	}
	size := 1 + slices.IndexFunc(b.left, func(x byte) bool { return x < 128 })
	n := 0
	for i := min(size, 9) - 1; i >= 0; i-- {
		n = n*128 + int(b.left[i])%128
	}
	switch {
	case size > 9 || size == 0 && len(b.left) >= 9:
		b.wrong = api.ErrForm
	case size == 0:
		b.wrong = api.ErrShort
	case len(number(n)) != size:
		b.wrong = api.ErrForm
	case n > limit:
		b.wrong = api.ErrRange
	default:
		b.left = b.left[size:]
		return n
	}
	return 0
}

func (b *bits) text(limit int) string {
	ahead := b.left
	n := b.number(limit)
	if b.wrong == api.OK && n > len(b.left) {
		b.left, b.wrong = ahead, api.ErrShort
	}
	if b.wrong != api.OK {
		return ""
	}
	s := string(b.left[:n])
	b.left = b.left[n:]
	return s
}

func (b *bits) spans() []span.Span {
	var l []span.Span
	for range b.number(mostSpans) {
		r, n, length := b.number(mostWriter), b.number(mostN), b.number(mostNames)
		l = append(l, sp(uint16(r), uint32(n), length))
	}
	return l
}

// plainGet is the reference for Get: the operation, how many bytes were read, and the error.
func plainGet(all []byte) (Op, int, api.Errno) {
	b := &bits{left: all}
	o := Op{Kind: b.number(5)}
	what := "q"
	if o.Kind != 0 {
		what = letters(o.Kind)
	}
	for _, letter := range what {
		switch letter {
		case 'a':
			r, n := b.number(mostWriter), b.number(mostN)
			o.Anchor, o.N = id(uint16(r), uint32(n)), uint32(b.number(mostN))
		case 't':
			o.Text = b.text(mostText)
		case 's':
			o.Spans = b.spans()
		case 'q':
			o.Seq = uint32(b.number(mostSeq))
		}
	}
	if b.wrong != api.OK {
		o = Op{}
	}
	return o, len(all) - len(b.left), b.wrong
}

func put(o Op) []byte {
	var w pack.Writer
	o.Put(&w)
	return w.Bytes()
}

// getHolds looks at what Get tells of bytes, and at what it leaves of the reader.
func getHolds(t *testing.T, b []byte) {
	t.Helper()
	want, at, e := plainGet(b)
	r := pack.From(b)
	if o := Get(r); !same(o, want) || r.Error() != e || r.At() != at {
		t.Fatalf("Get of % x: %v, error %d, %d read; want %v, error %d, %d read", b, o, r.Error(), r.At(), want, e, at)
	}
}

// holds looks at all that the calls tell of an operation.
func holds(t *testing.T, o Op) {
	t.Helper()
	e := plainFit(o)
	if got := o.Fit(); got != e {
		t.Fatalf("Fit of %v: %d, want %d", o, got, e)
	}
	if e != api.OK {
		return
	}
	if got, want := o.Atoms(), plainAtoms(o); got != want {
		t.Fatalf("Atoms of %v: %d, want %d", o, got, want)
	}
	b := plainPut(o)
	if got := put(o); !bytes.Equal(got, b) {
		t.Fatalf("Put of %v: % x, want % x", o, got, b)
	}
	if got, _, _ := plainGet(b); !same(got, o) {
		t.Fatalf("%v is read as %v", o, got)
	}
	getHolds(t, b)
}

// fitting are operations that fit: of each kind some, at the ends of what may be.
func fitting() []Op {
	return []Op{
		{Kind: Insert, N: 5, Text: "hi"}, {Kind: Insert, N: 1, Text: "\n"}, {Kind: Insert, Anchor: id(2, 7), N: mostN, Text: "~"},
		{Kind: Insert, Anchor: id(0, 1), N: mostN - 63, Text: strings.Repeat(" ", 64)}, {Kind: Insert, Anchor: id(mostWriter, mostN), N: 300, Text: allPlain[:64]},
		{Kind: Delete, Spans: one(1)}, {Kind: Delete, Spans: one(1024)}, {Kind: Delete, Spans: singles(1024)}, {Kind: Delete, Spans: []span.Span{sp(1, 4, 2), sp(2, 6, 1), sp(mostWriter, mostN, 1)}},
		{Kind: Move, N: 1, Spans: one(1)}, {Kind: Move, Anchor: id(2, 7), N: mostN, Spans: one(1)}, {Kind: Move, Anchor: id(mostWriter, mostN), N: mostN - 1023, Spans: one(1024)},
		{Kind: Move, Anchor: id(0, 1), N: mostN - 1023, Spans: singles(1024)}, {Kind: Move, Anchor: id(1, 300), N: 200, Spans: []span.Span{sp(1, 4, 2), sp(2, 6, 1)}},
		{Kind: Undo, Seq: 1}, {Kind: Undo, Seq: mostSeq}, {Kind: Undo, Seq: 300}, {Kind: Redo, Seq: 1}, {Kind: Redo, Seq: mostSeq}, {Kind: Redo, Seq: 128},
	}
}

func TestChapterExample(t *testing.T) { // P8.1, P8.2
	o := Op{Kind: Insert, N: 5, Text: "hi"}
	b := []byte{0x01, 0x00, 0x00, 0x05, 0x02, 0x68, 0x69}
	if o.Fit() != api.OK || o.Atoms() != 2 {
		t.Error(o.Fit(), o.Atoms())
	}
	if got := put(o); !bytes.Equal(got, b) {
		t.Errorf("% x", got)
	}
	r := pack.From(b)
	if got := Get(r); !same(got, o) || r.Done() != api.OK {
		t.Error(got, r.Done())
	}
}

func TestKinds(t *testing.T) { // P8.1
	if Insert != 1 || Delete != 2 || Move != 3 || Undo != 4 || Redo != 5 {
		t.Error(Insert, Delete, Move, Undo, Redo)
	}
}

func TestPlain(t *testing.T) { // P8.1
	if !Plain("") || !Plain(allPlain) || !Plain(strings.Repeat("a", 1000)) {
		t.Error("texts of bytes that may be aren't plain")
	}
	for b := range 256 {
		want := b == 0x0a || b >= 0x20 && b <= 0x7e
		for _, s := range []string{string([]byte{byte(b)}), "ab" + string([]byte{byte(b)}), string([]byte{byte(b)}) + "ab", "a" + string([]byte{byte(b)}) + "\n"} {
			if Plain(s) != want {
				t.Errorf("%q: %t", s, Plain(s))
			}
		}
	}
	for _, s := range []string{"\t", "\r\n", "a\x1f", "\x7f", "\x80", "\xff", "\x00", "é", "日本", "\u0120", "\n\v"} {
		if Plain(s) {
			t.Errorf("%q is plain", s)
		}
	}
}

func TestThoseThatFit(t *testing.T) { // P8.1, P8.2
	for i, o := range fitting() {
		if o.Fit() != api.OK {
			t.Errorf("%d: %d", i, o.Fit())
		}
		holds(t, o)
	}
}

func TestAtoms(t *testing.T) { // P8.1
	for i, x := range []struct {
		o    Op
		want int
	}{
		{Op{Kind: Insert, N: 1, Text: "a"}, 1}, {Op{Kind: Insert, N: 1, Text: "a\nb"}, 3}, {Op{Kind: Insert, N: 9, Text: strings.Repeat("x", 64)}, 64},
		{Op{Kind: Delete, Spans: one(1)}, 0}, {Op{Kind: Delete, Spans: one(1024)}, 0}, {Op{Kind: Delete, Spans: singles(1024)}, 0},
		{Op{Kind: Move, N: 1, Spans: one(1)}, 1}, {Op{Kind: Move, N: 1, Spans: one(1024)}, 1024}, {Op{Kind: Move, N: 1, Spans: singles(1024)}, 1024},
		{Op{Kind: Move, N: 1, Spans: []span.Span{sp(3, 1, 2), sp(1, 1, 5), sp(3, 3, 1)}}, 8},
		{Op{Kind: Undo, Seq: 7}, 0}, {Op{Kind: Redo, Seq: mostSeq}, 0},
	} {
		if x.o.Fit() != api.OK || x.o.Atoms() != x.want {
			t.Errorf("%d: %d, %d atoms, want %d", i, x.o.Fit(), x.o.Atoms(), x.want)
		}
	}
}

func TestFitOfNoKind(t *testing.T) { // P8.1
	for _, kind := range []int{0, 6, 7, -1, -5, 255, 256 + Insert, 1<<32 + Insert, math.MinInt, math.MaxInt} {
		for _, o := range append(fitting(), Op{}) {
			o.Kind = kind
			if e := o.Fit(); e != api.ErrForm {
				t.Errorf("%v: %d", o, e)
			}
		}
	}
}

func TestFitOfWhatAKindHasNot(t *testing.T) { // P8.1
	type change struct {
		letter string
		to     func(*Op)
	}
	for _, c := range []change{
		{"a", func(o *Op) { o.Anchor = id(2, 7) }}, {"a", func(o *Op) { o.Anchor = id(1, 0) }}, {"a", func(o *Op) { o.Anchor = id(0, 1) }},
		{"a", func(o *Op) { o.N = 1 }}, {"a", func(o *Op) { o.N = math.MaxUint32 }},
		{"t", func(o *Op) { o.Text = "a" }}, {"t", func(o *Op) { o.Text = "\x00" }}, {"t", func(o *Op) { o.Text = strings.Repeat("a", 65) }},
		{"s", func(o *Op) { o.Spans = one(3) }}, {"s", func(o *Op) { o.Spans = []span.Span{{}} }}, {"s", func(o *Op) { o.Spans = singles(1025) }},
		{"s", func(o *Op) { o.Spans = slices.Repeat(one(1), 2) }}, {"s", func(o *Op) { o.Spans = slices.Repeat(one(1024), 2) }},
		{"q", func(o *Op) { o.Seq = 1 }}, {"q", func(o *Op) { o.Seq = mostSeq }}, {"q", func(o *Op) { o.Seq = math.MaxUint32 }},
	} {
		for _, o := range fitting() {
			if has(o.Kind, c.letter) {
				continue
			}
			c.to(&o)
			if e := o.Fit(); e != api.ErrForm {
				t.Errorf("%v: %d", o, e)
			}
			holds(t, o)
		}
	}
	// Lists that are nil and empty are one.
	for _, o := range fitting() {
		if len(o.Spans) == 0 {
			o.Spans = []span.Span{}
			if e := o.Fit(); e != api.OK {
				t.Errorf("%v: %d", o, e)
			}
			o.Spans = one(3)[:0]
			holds(t, o)
		}
	}
}

func TestFitOfTexts(t *testing.T) { // P8.1
	for i, x := range []struct {
		text string
		want api.Errno
	}{
		{"", api.ErrForm}, {"a", api.OK}, {" ", api.OK}, {"~", api.OK}, {"\n", api.OK}, {"\n\n", api.OK},
		{"\x1f", api.ErrForm}, {"\x7f", api.ErrForm}, {"\t", api.ErrForm}, {"\x0b", api.ErrForm}, {"\x00", api.ErrForm}, {"\x80", api.ErrForm}, {"\xff", api.ErrForm}, {"é", api.ErrForm},
		{"ab\t", api.ErrForm}, {"\rab", api.ErrForm},
		{strings.Repeat("a", 63), api.OK}, {strings.Repeat("a", 64), api.OK}, {strings.Repeat("a", 65), api.ErrLong}, {strings.Repeat("\n", 65), api.ErrLong}, {strings.Repeat("a", 1<<20), api.ErrLong},
		// What isn't plain is told ahead of what is too long, wherever it stands.
		{strings.Repeat("a", 64) + "\t", api.ErrForm}, {"\t" + strings.Repeat("a", 64), api.ErrForm}, {strings.Repeat("a", 1000) + "\x7f", api.ErrForm}, {strings.Repeat("\t", 65), api.ErrForm},
		{strings.Repeat("a", 63) + "\t", api.ErrForm}, {strings.Repeat("é", 40), api.ErrForm},
	} {
		o := Op{Kind: Insert, Anchor: id(3, 3), N: 8, Text: x.text}
		if e := o.Fit(); e != x.want {
			t.Errorf("%d: %d, want %d", i, e, x.want)
		}
		holds(t, o)
	}
}

func TestFitOfAnchors(t *testing.T) { // P8.1
	for _, x := range []struct {
		at   ident.ID
		want api.Errno
	}{
		{ident.ID{}, api.OK}, {id(0, 1), api.OK}, {id(1, 1), api.OK}, {id(mostWriter, mostN), api.OK}, {id(0, mostN), api.OK},
		{id(1, 0), api.ErrForm}, {id(mostWriter, 0), api.ErrForm}, {id(0, mostN+1), api.ErrForm}, {id(1, mostN+1), api.ErrForm}, {id(7, math.MaxUint32), api.ErrForm},
	} {
		for _, o := range []Op{{Kind: Insert, Anchor: x.at, N: 4, Text: "ab"}, {Kind: Move, Anchor: x.at, N: 4, Spans: one(3)}} {
			if e := o.Fit(); e != x.want {
				t.Errorf("%v: %d, want %d", o, e, x.want)
			}
			holds(t, o)
		}
	}
	// An anchor may be among what is moved, or made: layer 8 doesn't ask.
	for _, o := range []Op{{Kind: Move, Anchor: id(1, 2), N: 4, Spans: one(3)}, {Kind: Insert, Anchor: id(1, 4), N: 4, Text: "ab"}} {
		if e := o.Fit(); e != api.OK {
			t.Errorf("%v: %d", o, e)
		}
	}
}

func TestFitOfNumbers(t *testing.T) { // P8.1
	for _, count := range []int{1, 2, 3, 63, 64, 65, 1023, 1024} {
		last := uint32(mostN - count + 1) // with it the last number is the greatest that may be
		for _, x := range []struct {
			n    uint32
			want api.Errno
		}{
			{0, api.ErrForm}, {1, api.OK}, {2, api.OK}, {last - 1, api.OK}, {last, api.OK}, {last + 1, api.ErrForm}, {mostN + 1, api.ErrForm},
			{math.MaxUint32, api.ErrForm}, {math.MaxUint32 - uint32(count), api.ErrForm}, {uint32(1<<32 - count), api.ErrForm}, {1 << 31, api.ErrForm},
		} {
			o := Op{Kind: Move, Anchor: id(9, 9), N: x.n, Spans: one(count)}
			if e := o.Fit(); e != x.want {
				t.Errorf("Move of %d from %d on: %d, want %d", count, x.n, e, x.want)
			}
			holds(t, o)
			if count > mostText {
				continue
			}
			o = Op{Kind: Insert, Anchor: id(9, 9), N: x.n, Text: strings.Repeat("a", count)}
			if e := o.Fit(); e != x.want {
				t.Errorf("Insert of %d from %d on: %d, want %d", count, x.n, e, x.want)
			}
			holds(t, o)
		}
	}
	// As many numbers are taken as there are names in all spans, not in one of them, and not as many as there are spans.
	several := []span.Span{sp(1, 1, 5), sp(2, 1, 5)}
	if e := (Op{Kind: Move, N: mostN - 9, Spans: several}).Fit(); e != api.OK {
		t.Error(e)
	}
	if e := (Op{Kind: Move, N: mostN - 8, Spans: several}).Fit(); e != api.ErrForm {
		t.Error(e)
	}
	// Those that are named aren't those that are made.
	if e := (Op{Kind: Delete, Spans: []span.Span{sp(1, mostN, 1)}}).Fit(); e != api.OK {
		t.Error(e)
	}
}

func TestFitOfSeqs(t *testing.T) { // P8.1
	for _, x := range []struct {
		seq  uint32
		want api.Errno
	}{{0, api.ErrForm}, {1, api.OK}, {2, api.OK}, {mostSeq - 1, api.OK}, {mostSeq, api.OK}, {mostSeq + 1, api.ErrForm}, {1 << 31, api.ErrForm}, {math.MaxUint32, api.ErrForm}} {
		for _, kind := range []int{Undo, Redo} {
			o := Op{Kind: kind, Seq: x.seq}
			if e := o.Fit(); e != x.want {
				t.Errorf("%v: %d, want %d", o, e, x.want)
			}
			holds(t, o)
		}
	}
}

// badSpans are spans of which layer 7's Fit tells each of its errors.
var badSpans = map[api.Errno][][]span.Span{
	api.ErrForm:  {nil, {}, {{}}, one(0), one(-1), one(1025), one(2000), one(math.MaxInt), {sp(1, 0, 1)}, {sp(1, mostN, 2)}, {sp(1, mostN+1, 1)}, {sp(1, 1, 1), {}}, {sp(1, 1, 1), sp(1, 1, 1), {}}},
	api.ErrMany:  {singles(1025), make([]span.Span, 1025), slices.Repeat(one(1), 1025)},
	api.ErrLong:  {{sp(1, 1, 1024), sp(2, 1, 1)}, {sp(1, 1, 1000), sp(2, 1, 25)}, slices.Repeat(one(1024), 3)},
	api.ErrTwice: {slices.Repeat(one(1), 2), {sp(1, 5, 3), sp(2, 1, 1), sp(1, 3, 3)}, slices.Repeat(one(1), 1024)},
}

func TestFitOfSpans(t *testing.T) { // P8.1
	for want, lists := range badSpans {
		for i, l := range lists {
			if e := span.Fit(l...); e != want {
				t.Fatalf("layer 7's error of list %d: %d, want %d", i, e, want)
			}
			for _, o := range []Op{{Kind: Delete, Spans: l}, {Kind: Move, N: 1, Spans: l}, {Kind: Move, Anchor: id(4, 4), N: mostN, Spans: l}} {
				if e := o.Fit(); e != want {
					t.Errorf("kind %d, list %d: %d, want %d", o.Kind, i, e, want)
				}
			}
		}
	}
}

func TestFitTellsTheFirst(t *testing.T) { // P8.1
	long := strings.Repeat("a", 65)
	for i, x := range []struct {
		o    Op
		want api.Errno
	}{
		// What a kind doesn't have, ahead of what is too long, too many or twice.
		{Op{Kind: Insert, N: 1, Text: long, Seq: 1}, api.ErrForm}, {Op{Kind: Insert, N: 1, Text: long, Spans: one(1)}, api.ErrForm},
		{Op{Kind: Delete, N: 1, Spans: singles(1025)}, api.ErrForm}, {Op{Kind: Delete, Anchor: id(1, 1), Spans: slices.Repeat(one(1), 2)}, api.ErrForm},
		{Op{Kind: Delete, Text: "a", Spans: slices.Repeat(one(1024), 2)}, api.ErrForm}, {Op{Kind: Delete, Seq: 1, Spans: singles(1025)}, api.ErrForm},
		{Op{Kind: Move, N: 1, Text: "a", Spans: singles(1025)}, api.ErrForm}, {Op{Kind: Move, N: 1, Seq: 1, Spans: slices.Repeat(one(1), 2)}, api.ErrForm},
		{Op{Kind: 6, Text: long}, api.ErrForm}, {Op{Text: long}, api.ErrForm}, {Op{Spans: singles(1025)}, api.ErrForm}, {Op{Kind: Undo, Seq: 1, Text: long}, api.ErrForm}, {Op{Kind: Redo, Seq: 1, Spans: singles(1025)}, api.ErrForm},
		// Too long, too many or twice, ahead of an anchor, or numbers, that may not be.
		{Op{Kind: Insert, Text: long}, api.ErrLong}, {Op{Kind: Insert, Anchor: id(1, 0), N: 1, Text: long}, api.ErrLong}, {Op{Kind: Insert, N: mostN, Text: long}, api.ErrLong},
		{Op{Kind: Move, Spans: singles(1025)}, api.ErrMany}, {Op{Kind: Move, N: mostN, Spans: singles(1025)}, api.ErrMany}, {Op{Kind: Move, Anchor: id(1, 0), N: 1, Spans: singles(1025)}, api.ErrMany},
		{Op{Kind: Move, Spans: slices.Repeat(one(1024), 2)}, api.ErrLong}, {Op{Kind: Move, Anchor: id(1, mostN+1), N: 1, Spans: slices.Repeat(one(1024), 2)}, api.ErrLong},
		{Op{Kind: Move, Spans: slices.Repeat(one(1), 2)}, api.ErrTwice}, {Op{Kind: Move, Anchor: id(1, 0), N: math.MaxUint32, Spans: slices.Repeat(one(1), 2)}, api.ErrTwice},
		{Op{Kind: Insert, Anchor: id(1, 0), Text: "a"}, api.ErrForm}, {Op{Kind: Move, Anchor: id(1, 0), N: mostN, Spans: one(2)}, api.ErrForm},
	} {
		if e := x.o.Fit(); e != x.want {
			t.Errorf("%d: %d, want %d", i, e, x.want)
		}
		if e := plainFit(x.o); e != x.want {
			t.Errorf("%d: the reference tells %d, want %d", i, e, x.want)
		}
	}
}

func TestPut(t *testing.T) { // P8.2
	for i, x := range []struct {
		o    Op
		want []byte
	}{
		{Op{Kind: Insert, Anchor: id(300, 2), N: 1, Text: "\n"}, []byte{1, 0xac, 2, 2, 1, 1, 0x0a}},
		{Op{Kind: Insert, Anchor: id(mostWriter, mostN), N: mostN - 2, Text: "abc"}, []byte{1, 0xff, 0xff, 3, 0x80, 0x80, 0x80, 0x80, 1, 0xfe, 0xff, 0xff, 0x7f, 3, 'a', 'b', 'c'}},
		{Op{Kind: Delete, Spans: []span.Span{sp(300, 5, 2), sp(1, 1, 1)}}, []byte{2, 2, 0xac, 2, 5, 2, 1, 1, 1}},
		{Op{Kind: Move, N: 4, Spans: one(3)}, []byte{3, 0, 0, 4, 1, 1, 1, 3}},
		{Op{Kind: Move, Anchor: id(2, 7), N: 300, Spans: []span.Span{sp(3, 4, 5), sp(6, 8, 9)}}, []byte{3, 2, 7, 0xac, 2, 2, 3, 4, 5, 6, 8, 9}},
		{Op{Kind: Undo, Seq: 7}, []byte{4, 7}}, {Op{Kind: Redo, Seq: 300}, []byte{5, 0xac, 2}}, {Op{Kind: Redo, Seq: mostSeq}, []byte{5, 0x80, 0x80, 0x80, 0x80, 1}},
	} {
		if got := put(x.o); x.o.Fit() != api.OK || !bytes.Equal(got, x.want) {
			t.Errorf("%d: % x, want % x", i, got, x.want)
		}
		holds(t, x.o)
	}
	// Behind what was written, and ahead of what is.
	var w pack.Writer
	w.Text("ab")
	Op{Kind: Undo, Seq: 9}.Put(&w)
	Op{Kind: Insert, Anchor: id(1, 2), N: 3, Text: "x"}.Put(&w)
	w.Byte(255)
	if got := w.Bytes(); !bytes.Equal(got, []byte{2, 'a', 'b', 4, 9, 1, 1, 2, 3, 1, 'x', 255}) {
		t.Errorf("% x", got)
	}
}

func TestGetOfWhatWasPut(t *testing.T) { // P8.2
	var w pack.Writer
	for _, o := range fitting() {
		o.Put(&w)
		r := pack.From(append(append([]byte{77}, put(o)...), 0xab, 0xcd))
		r.Byte()
		if got := Get(r); !same(got, o) || r.Error() != api.OK || r.Left() != 2 || r.Byte() != 0xab {
			t.Errorf("%v: %v, error %d, %d left", o, got, r.Error(), r.Left())
		}
	}
	// All of them, one behind the other.
	r := pack.From(w.Bytes())
	for _, o := range fitting() {
		if got := Get(r); !same(got, o) {
			t.Errorf("%v: %v", o, got)
		}
	}
	if r.Done() != api.OK {
		t.Error(r.Done())
	}
}

func TestGetOfThoseThatDoNotFit(t *testing.T) { // P8.2
	for i, x := range []struct {
		b    []byte
		want Op
	}{
		{[]byte{0, 5}, Op{Seq: 5}}, {[]byte{0, 0}, Op{}}, {append([]byte{0}, number(mostSeq)...), Op{Seq: mostSeq}},
		{[]byte{4, 0}, Op{Kind: Undo}}, {[]byte{5, 0}, Op{Kind: Redo}},
		{[]byte{1, 0, 0, 0, 0}, Op{Kind: Insert}}, {[]byte{1, 3, 0, 0, 0}, Op{Kind: Insert, Anchor: id(3, 0)}},
		{[]byte{1, 0, 0, 9, 2, 0, 0xff}, Op{Kind: Insert, N: 9, Text: "\x00\xff"}}, {append([]byte{1, 0, 0}, append(number(mostN), 2, 'a', 'b')...), Op{Kind: Insert, N: mostN, Text: "ab"}},
		{[]byte{2, 0}, Op{Kind: Delete}}, {[]byte{2, 1, 0, 0, 0}, Op{Kind: Delete, Spans: []span.Span{{}}}}, {[]byte{2, 2, 1, 1, 1, 1, 1, 1}, Op{Kind: Delete, Spans: slices.Repeat(one(1), 2)}},
		{[]byte{3, 0, 0, 0, 0}, Op{Kind: Move}}, {[]byte{3, 1, 0, 0, 1, 1, 1, 3}, Op{Kind: Move, Anchor: id(1, 0), Spans: one(3)}},
	} {
		r := pack.From(x.b)
		got := Get(r)
		if !same(got, x.want) || r.Done() != api.OK || got.Fit() == api.OK {
			t.Errorf("%d: %v, %d, want %v", i, got, r.Done(), x.want)
		}
		getHolds(t, x.b)
	}
}

func TestGetAtTheLimits(t *testing.T) { // P8.2
	text := func(size int) []byte {
		return append(append([]byte{1, 0, 0, 1}, number(size)...), make([]byte, size)...)
	}
	list := func(kind []byte, count int) []byte {
		return append(append(kind, number(count)...), bytes.Repeat([]byte{1, 1, 1}, count)...)
	}
	for i, x := range []struct {
		b    []byte
		want api.Errno
	}{
		{[]byte{6}, api.ErrRange}, {[]byte{6, 1}, api.ErrRange}, {[]byte{7, 0, 0, 1, 1, 'a'}, api.ErrRange}, {number(256 + 1), api.ErrRange}, {append(number(1<<32+4), 1), api.ErrRange}, {number(math.MaxInt), api.ErrRange},
		{append(written(1, 65535, 1, 1), 1, 'a'), api.OK}, {append(written(1, 65536, 1, 1), 1, 'a'), api.ErrRange}, {append(written(1, 65536+7, 1, 1), 1, 'a'), api.ErrRange}, {append(written(1, 1<<32, 1, 1), 1, 'a'), api.ErrRange},
		{append(written(1, 1, mostN, 1), 1, 'a'), api.OK}, {append(written(1, 1, mostN+1, 1), 1, 'a'), api.ErrRange}, {append(written(1, 1, 1<<32+1, 1), 1, 'a'), api.ErrRange},
		{append(written(1, 1, 1, mostN), 1, 'a'), api.OK}, {append(written(1, 1, 1, mostN+1), 1, 'a'), api.ErrRange}, {append(written(1, 1, 1, 1<<32+1), 1, 'a'), api.ErrRange},
		{written(3, 65535, mostN, mostN, 1, 65535, mostN, 1024), api.OK}, {written(3, 65536, 1, 1, 1, 1, 1, 1), api.ErrRange}, {written(3, 1, mostN+1, 1, 1, 1, 1, 1), api.ErrRange}, {written(3, 1, 1, mostN+1, 1, 1, 1, 1), api.ErrRange},
		{written(3, 1, 1, 1, 1, 65536, 1, 1), api.ErrRange}, {written(3, 1, 1, 1, 1, 1, mostN+1, 1), api.ErrRange}, {written(3, 1, 1, 1, 1, 1, 1, 1025), api.ErrRange},
		{written(2, 1, 65535, mostN, 1024), api.OK}, {written(2, 1, 65536, 1, 1), api.ErrRange}, {written(2, 1, 1, mostN+1, 1), api.ErrRange}, {written(2, 1, 1, 1, 1025), api.ErrRange},
		{text(63), api.OK}, {text(64), api.OK}, {text(65), api.ErrRange}, {text(1000), api.ErrRange}, {written(1, 0, 0, 1, math.MaxInt), api.ErrRange},
		{list([]byte{2}, 1024), api.OK}, {list([]byte{2}, 1025), api.ErrRange}, {list([]byte{3, 0, 0, 1}, 1024), api.OK}, {list([]byte{3, 0, 0, 1}, 1025), api.ErrRange},
		{written(0, mostSeq), api.OK}, {written(0, mostSeq+1), api.ErrRange}, {written(4, mostSeq), api.OK}, {written(4, mostSeq+1), api.ErrRange}, {written(5, mostSeq), api.OK}, {written(5, mostSeq+1), api.ErrRange}, {written(5, 1<<32+1), api.ErrRange},
		// Numbers that aren't in as few bytes as they have.
		{[]byte{0x84, 0, 1}, api.ErrForm}, {[]byte{4, 0x81, 0}, api.ErrForm}, {[]byte{1, 0x80, 0, 0, 1, 1, 'a'}, api.ErrForm}, {[]byte{1, 0, 0, 0x81, 0, 1, 'a'}, api.ErrForm}, {[]byte{1, 0, 0, 1, 0x81, 0, 'a'}, api.ErrForm},
		{bytes.Repeat([]byte{0x80}, 9), api.ErrForm}, {append([]byte{4}, bytes.Repeat([]byte{0xff}, 9)...), api.ErrForm},
	} {
		r := pack.From(x.b)
		if o := Get(r); r.Error() != x.want || x.want != api.OK && !same(o, Op{}) || x.want == api.OK && r.Left() != 0 {
			t.Errorf("%d: %v, error %d, want %d, %d left", i, o, r.Error(), x.want, r.Left())
		}
		getHolds(t, x.b)
	}
}

func TestGetOfCutBytes(t *testing.T) { // P8.2
	for _, o := range fitting() {
		b := put(o)
		for i := range b {
			r := pack.From(b[:i])
			if got := Get(r); !same(got, Op{}) || r.Error() != api.ErrShort {
				t.Fatalf("% x: %v, %d", b[:i], got, r.Error())
			}
			getHolds(t, b[:i])
		}
	}
	r := pack.From([]byte{0})
	if got := Get(r); !same(got, Op{}) || r.Error() != api.ErrShort {
		t.Error(got, r.Error())
	}
}

func TestGetBehindAnError(t *testing.T) { // P8.2
	for _, o := range fitting() {
		for _, spoil := range []func(*pack.Reader){
			func(r *pack.Reader) { r.Num(0) },
			func(r *pack.Reader) { Get(r); r.Text(-1) },
			func(r *pack.Reader) { Get(r); Get(r); Get(r) },
		} {
			r := pack.From(append(put(o), put(o)...))
			spoil(r)
			at, e := r.At(), r.Error()
			if got := Get(r); e == api.OK || !same(got, Op{}) || r.At() != at || r.Error() != e {
				t.Error(got, r.At(), r.Error())
			}
		}
	}
}

func TestMemory(t *testing.T) { // P8.1, P8.2
	l := []span.Span{sp(3, 9, 4), sp(1, 5, 2), sp(2, 1, 1), sp(1, 7, 2), sp(1, 5, 2), {}}
	want := slices.Clone(l)
	for size := range len(l) + 1 {
		// Behind the list is spare room, which is somebody else's.
		for _, o := range []Op{{Kind: Delete, Spans: l[:size]}, {Kind: Move, Anchor: id(1, 1), N: 1, Spans: l[:size]}, {Kind: Insert, N: 1, Text: "a", Spans: l[:size]}, {Kind: Undo, Spans: l[:size]}} {
			o.Fit()
			o.Atoms()
			put(o)
			if !slices.Equal(l, want) {
				t.Fatalf("an argument was changed: %v", l)
			}
		}
	}
	// What was written stays, whatever becomes of the spans; what is read shares nothing with what was read ahead.
	var w pack.Writer
	o := Op{Kind: Delete, Spans: l[:4]}
	o.Put(&w)
	o.Put(&w)
	clear(l)
	b := w.Bytes()
	r := pack.From(b)
	first := Get(r)
	second := Get(r)
	clear(b)
	clear(first.Spans)
	_ = append(first.Spans, sp(9, 9, 9))
	if !slices.Equal(second.Spans, want[:4]) || r.Done() != api.OK {
		t.Error(second, r.Done())
	}
}

// anyNumber is a number at an end of what may be, or beside one.
func anyNumber(src *rand.Rand) uint32 {
	return []uint32{0, 1, 2, 300, mostN - 1024, mostN - 1023, mostN - 64, mostN - 63, mostN - 1, mostN, mostN + 1, math.MaxUint32}[src.Intn(12)]
}

func anyText(src *rand.Rand) string {
	var b []byte
	for range []int{0, 1, 2, 20, 63, 64, 65, 200}[src.Intn(8)] {
		b = append(b, allPlain[src.Intn(len(allPlain))])
	}
	if src.Intn(4) == 0 && len(b) > 0 {
		b[src.Intn(len(b))] = byte(src.Intn(256))
	}
	return string(b)
}

func anySpans(src *rand.Rand) []span.Span {
	if src.Intn(8) == 0 {
		wrong := badSpans[[]api.Errno{api.ErrForm, api.ErrMany, api.ErrLong, api.ErrTwice}[src.Intn(4)]]
		return wrong[src.Intn(len(wrong))]
	}
	var l []span.Span
	next := uint32(1)
	for range src.Intn(8) {
		length := 1 + src.Intn([]int{1, 5, 300}[src.Intn(3)])
		next += uint32(src.Intn(4))
		l = append(l, sp(uint16(src.Intn(3)), next, length))
		next += uint32(src.Intn(2)) * uint32(length)
	}
	return l
}

// anyOp is an operation: mostly one that has what its kind has alone.
func anyOp(src *rand.Rand) Op {
	full := Op{
		Kind:   1 + src.Intn(5),
		Anchor: id([]uint16{0, 0, 1, mostWriter}[src.Intn(4)], anyNumber(src)),
		N:      anyNumber(src),
		Text:   anyText(src),
		Spans:  anySpans(src),
		Seq:    anyNumber(src),
	}
	o := Op{Kind: full.Kind}
	keeps := func(letter string) bool { return has(o.Kind, letter) || src.Intn(30) == 0 }
	if keeps("a") {
		o.Anchor, o.N = full.Anchor, full.N
	}
	if keeps("t") {
		o.Text = full.Text
	}
	if keeps("s") {
		o.Spans = full.Spans
	}
	if keeps("q") {
		o.Seq = full.Seq
	}
	if src.Intn(40) == 0 {
		o.Kind = src.Intn(20) - 8
	}
	return o
}

func TestOperationsOfAnyKind(t *testing.T) { // P8.1, P8.2
	src := rand.New(rand.NewSource(8))
	seen, kinds := map[api.Errno]int{}, map[int]int{}
	for range 60000 {
		o := anyOp(src)
		holds(t, o)
		seen[o.Fit()]++
		if o.Fit() == api.OK {
			kinds[o.Kind]++
		}
	}
	for _, e := range []api.Errno{api.OK, api.ErrForm, api.ErrMany, api.ErrLong, api.ErrTwice} {
		if seen[e] < 100 {
			t.Errorf("error %d: only %d times", e, seen[e])
		}
	}
	for kind := Insert; kind <= Redo; kind++ {
		if kinds[kind] < 100 {
			t.Errorf("kind %d: only %d that fit", kind, kinds[kind])
		}
	}
}

func TestBytesOfAnyKind(t *testing.T) { // P8.2
	src := rand.New(rand.NewSource(82))
	all := fitting()
	for range 60000 {
		var b []byte
		switch src.Intn(3) {
		case 0: // whatever, behind a kind
			b = make([]byte, 1+src.Intn(40))
			src.Read(b)
			b[0] = byte(src.Intn(8))
		case 1: // small numbers, now and then a great one
			b = number(src.Intn(7))
			for range src.Intn(20) {
				b = append(b, number(src.Intn(200)<<(7*(src.Intn(8)/2)))...)
			}
		case 2: // what was put, with a byte that is another one
			b = put(all[src.Intn(len(all))])
			b[src.Intn(min(len(b), 30))] = byte(src.Intn(256))
		}
		getHolds(t, b)
	}
	for a := range 256 {
		for b := range 256 {
			x, y := byte(a), byte(b)
			for _, all := range [][]byte{{x, y}, {x, y, 1, 1, 1, 1, 1, 1, 1}, {1, x, y, 1, 1, 'a'}, {1, 1, 1, x, y, 1, 'a'}, {1, 1, 1, 1, x, y}, {2, x, y, 1, 1}, {3, 1, x, y, 1, 1, 1, 1, 1}, {4, x, y}, {0, x, y}} {
				getHolds(t, all)
			}
		}
	}
}

func TestEndsAtAnyArguments(t *testing.T) { // P1
	kinds := []int{math.MinInt, -1, 0, 1, 2, 3, 4, 5, 6, 7, 1 << 32, math.MaxInt}
	ids := []ident.ID{{}, id(1, 0), id(mostWriter, mostN), id(0, mostN+1), id(mostWriter, math.MaxUint32)}
	texts := []string{"", "a", "\x00\xff", strings.Repeat("a", 65), strings.Repeat("é", 100000)}
	lists := [][]span.Span{nil, {{}}, one(math.MaxInt), one(math.MinInt), one(1024), singles(3000), slices.Repeat(one(math.MaxInt), 1000), {sp(mostWriter, math.MaxUint32, math.MaxInt), sp(0, 0, -1)}}
	for _, kind := range kinds {
		for _, at := range ids {
			for _, n := range []uint32{0, 1, mostN, math.MaxUint32} {
				for _, text := range texts {
					for _, l := range lists {
						o := Op{Kind: kind, Anchor: at, N: n, Text: text, Spans: l, Seq: n}
						o.Fit()
						o.Atoms()
						if len(text) < 100 {
							Get(pack.From(put(o)))
						}
					}
				}
			}
		}
	}
	Plain(strings.Repeat("a", 1<<22))
	Op{Kind: Insert, Text: strings.Repeat("a", 1<<22)}.Put(&pack.Writer{})
	Get(pack.From(nil))
	Get(pack.From([]byte{}))
	Get(pack.From(bytes.Repeat([]byte{0xff}, 1000)))
}
