package pack

import (
	"bytes"
	"math"
	"math/rand"
	"slices"
	"strings"
	"testing"

	"copyist/api"
)

// The greatest number, as the document says it, not as the program does.
const greatest = 9223372036854775807 // 2^63 - 1

// filled are so many bytes of one kind, and others behind them.
func filled(count int, b byte, behind ...byte) []byte {
	return append(bytes.Repeat([]byte{b}, count), behind...)
}

// Numbers at the edges, and how they are written.
var numbers = []struct {
	n    uint64
	want []byte
}{
	{300, []byte{0xac, 0x02}}, // the chapter's example
	{0, []byte{0}}, {1, []byte{1}}, {126, []byte{126}}, {127, []byte{127}},
	{128, []byte{128, 1}}, {129, []byte{129, 1}}, {255, []byte{255, 1}}, {256, []byte{128, 2}},
	{16383, []byte{255, 127}}, {16384, []byte{128, 128, 1}}, {16385, []byte{129, 128, 1}},
	{2097151, []byte{255, 255, 127}}, {2097152, []byte{128, 128, 128, 1}},
	{1<<28 - 1, filled(3, 255, 127)}, {1 << 28, filled(4, 128, 1)},
	{math.MaxUint32, filled(4, 255, 15)}, {1 << 32, filled(4, 128, 16)},
	{1<<35 - 1, filled(4, 255, 127)}, {1 << 35, filled(5, 128, 1)},
	{1 << 40, filled(5, 128, 32)},
	{1<<42 - 1, filled(5, 255, 127)}, {1 << 42, filled(6, 128, 1)},
	{1<<49 - 1, filled(6, 255, 127)}, {1 << 49, filled(7, 128, 1)},
	{1<<56 - 1, filled(7, 255, 127)}, {1 << 56, filled(8, 128, 1)},
	{1 << 62, filled(8, 128, 64)}, {greatest - 1, append([]byte{254}, filled(7, 255, 127)...)}, {greatest, filled(8, 255, 127)},
}

// The reference: a number's digits by sevens of bits, the lowest one first.
func digits(n uint64) []byte {
	out := []byte{byte(n % 128)}
	for n /= 128; n > 0; n /= 128 {
		out[len(out)-1] |= 128
		out = append(out, byte(n%128))
	}
	return out
}

// The reference of what Num reads: the number, how many bytes it has, and the error, in the order in which the promise names them.
func plainNum(b []byte, limit uint64) (uint64, int, api.Errno) {
	ahead := 0
	for ahead < len(b) && b[ahead] > 127 {
		ahead++
	}
	if ahead >= 9 {
		return 0, 0, api.ErrForm
	}
	if ahead == len(b) {
		return 0, 0, api.ErrShort
	}
	var n uint64
	for i := ahead; i >= 0; i-- {
		n = n*128 + uint64(b[i]%128)
	}
	if len(digits(n)) != ahead+1 {
		return 0, 0, api.ErrForm
	}
	if n > limit {
		return 0, 0, api.ErrRange
	}
	return n, ahead + 1, api.OK
}

func plainText(b []byte, limit int) (string, int, api.Errno) {
	n, size, e := plainNum(b, uint64(max(0, limit)))
	if e != api.OK {
		return "", 0, e
	}
	if b = b[size:]; n > uint64(len(b)) {
		return "", 0, api.ErrShort
	}
	return string(b[:n]), size + int(n), api.OK
}

func wrote(t *testing.T, w *Writer, want ...byte) {
	t.Helper()
	if !bytes.Equal(w.Bytes(), want) || w.Len() != len(want) {
		t.Fatalf("% x, %d bytes, want % x", w.Bytes(), w.Len(), want)
	}
}

// stands holds all that a reader tells of itself against what is to be, of one without an error, or with one.
func stands(t *testing.T, r *Reader, at, left int, e api.Errno) {
	t.Helper()
	done := e
	if e == api.OK && left > 0 {
		done = api.ErrLong
	}
	for range 2 { // asked twice: to ask changes nothing
		if r.At() != at || r.Left() != left || r.Error() != e || r.Done() != done {
			t.Fatalf("At %d, Left %d, Error %d, Done %d; want %d, %d, %d, %d", r.At(), r.Left(), r.Error(), r.Done(), at, left, e, done)
		}
	}
}

// failed tells whether a reader with an error reads nothing any more, whatever is asked, and keeps that error.
func failed(t *testing.T, r *Reader, at, left int, e api.Errno) {
	t.Helper()
	stands(t, r, at, left, e)
	for range 2 {
		if b := r.Byte(); b != 0 {
			t.Fatalf("Byte behind %d: %d", e, b)
		}
		stands(t, r, at, left, e)
		for _, limit := range []uint64{0, 100, greatest, math.MaxUint64} {
			if n := r.Num(limit); n != 0 {
				t.Fatalf("Num behind %d: %d", e, n)
			}
			stands(t, r, at, left, e)
		}
		for _, limit := range []int{math.MinInt, -1, 0, 3, math.MaxInt} {
			if s := r.Text(limit); s != "" {
				t.Fatalf("Text behind %d: %q", e, s)
			}
			stands(t, r, at, left, e)
		}
	}
}

// readable are bytes, numbers and texts that could all be read, if nothing were wrong ahead of them.
var readable = []byte{1, 'x', 5, 0, 2, 'y', 'z'}

func TestWriterOfNothing(t *testing.T) { // P5.1
	var w Writer
	wrote(t, &w)
	w.Raw()
	w.Raw([]byte{}...)
	w.Raw(nil...)
	wrote(t, &w)
	new(Writer).Raw()
	wrote(t, new(Writer))
}

func TestWriterByte(t *testing.T) { // P5.1
	var w Writer
	var want []byte
	for b := range 256 {
		w.Byte(byte(b))
		want = append(want, byte(b))
		wrote(t, &w, want...)
	}
}

func TestWriterNum(t *testing.T) { // P5.1
	var all Writer
	var want []byte
	for _, x := range numbers {
		var w, high Writer
		w.Num(x.n)
		wrote(t, &w, x.want...)
		high.Num(x.n + 1<<63) // of 64 bits the lowest 63 count
		wrote(t, &high, x.want...)
		all.Num(x.n)
		want = append(want, x.want...)
		wrote(t, &all, want...)
	}
	var w Writer
	w.Num(1 << 63)
	w.Num(1<<63 + 5)
	w.Num(math.MaxUint64)
	wrote(t, &w, append([]byte{0, 5}, filled(8, 255, 127)...)...)
	src := rand.New(rand.NewSource(5))
	for range 5000 {
		n := src.Uint64() >> src.Intn(64)
		var w Writer
		w.Num(n)
		wrote(t, &w, digits(n&greatest)...)
	}
}

func TestWriterText(t *testing.T) { // P5.1
	var w Writer
	w.Text("")
	wrote(t, &w, 0)
	w.Text("hi")
	wrote(t, &w, 0, 2, 'h', 'i')
	w.Text("")
	w.Text("\x00\xff\x80")
	wrote(t, &w, 0, 2, 'h', 'i', 0, 3, 0, 255, 128)
	w.Text("é€") // bytes count, not runes
	wrote(t, &w, 0, 2, 'h', 'i', 0, 3, 0, 255, 128, 5, 0xc3, 0xa9, 0xe2, 0x82, 0xac)
	for _, length := range []int{1, 126, 127, 128, 129, 300, 16383, 16384, 100000} {
		var w Writer
		s := strings.Repeat("q", length)
		w.Text(s)
		wrote(t, &w, append(digits(uint64(length)), s...)...)
	}
}

func TestWriterRaw(t *testing.T) { // P5.1
	var w Writer
	w.Raw(0, 128, 255)
	w.Raw(7)
	w.Raw()
	w.Raw([]byte{3, 2, 1}...)
	wrote(t, &w, 0, 128, 255, 7, 3, 2, 1)
	w.Raw(w.Bytes()...)
	wrote(t, &w, 0, 128, 255, 7, 3, 2, 1, 0, 128, 255, 7, 3, 2, 1)
}

func TestWriterOneBehindTheOther(t *testing.T) { // P5.1
	var w Writer
	w.Text("ab")
	w.Num(300)
	w.Raw(9, 8)
	w.Byte(200)
	w.Num(0)
	w.Text("")
	w.Raw()
	w.Byte(1)
	wrote(t, &w, 2, 'a', 'b', 0xac, 0x02, 9, 8, 200, 0, 0, 1)
}

func TestWritersAreApart(t *testing.T) { // P5.1: what one writes, another one hasn't
	var a, b Writer
	a.Text("a")
	b.Num(300)
	a.Byte(3)
	wrote(t, &a, 1, 'a', 3)
	wrote(t, &b, 0xac, 0x02)
}

func TestWriterMemory(t *testing.T) { // P5.1, and what is told is new memory
	var w Writer
	handed := []byte{1, 2, 3, 4}
	w.Raw(handed[:2]...)
	if !slices.Equal(handed, []byte{1, 2, 3, 4}) {
		t.Errorf("what was handed in: %v", handed)
	}
	handed[0] = 77
	wrote(t, &w, 1, 2)
	w.Byte(5)
	if !slices.Equal(handed, []byte{77, 2, 3, 4}) {
		t.Errorf("what was handed in: %v", handed)
	}
	one, two := w.Bytes(), w.Bytes()
	one[0] = 88
	wrote(t, &w, 1, 2, 5)
	w.Raw(6, 7)
	if !slices.Equal(one, []byte{88, 2, 5}) || !slices.Equal(two, []byte{1, 2, 5}) {
		t.Errorf("what was told: %v, %v", one, two)
	}
	_ = append(two, 99, 99) // in the spare room of an answer nothing of the writer's stands
	wrote(t, &w, 1, 2, 5, 6, 7)
}

func TestReaderOfNothing(t *testing.T) { // P5.2, P5.3
	for _, b := range [][]byte{nil, {}, readable[:0]} {
		stands(t, From(b), 0, 0, api.OK)
		r := From(b)
		if got := r.Byte(); got != 0 {
			t.Errorf("Byte: %d", got)
		}
		failed(t, r, 0, 0, api.ErrShort)
		r = From(b)
		if got := r.Num(greatest); got != 0 {
			t.Errorf("Num: %d", got)
		}
		failed(t, r, 0, 0, api.ErrShort)
		r = From(b)
		if got := r.Text(10); got != "" {
			t.Errorf("Text: %q", got)
		}
		failed(t, r, 0, 0, api.ErrShort)
	}
}

func TestReaderByte(t *testing.T) { // P5.2, P5.3
	var all []byte
	for b := range 256 {
		all = append(all, byte(b))
	}
	r := From(all)
	for i, b := range all {
		stands(t, r, i, 256-i, api.OK)
		if got := r.Byte(); got != b {
			t.Errorf("byte %d: %d", i, got)
		}
	}
	stands(t, r, 256, 0, api.OK)
	if got := r.Byte(); got != 0 {
		t.Errorf("Byte at the end: %d", got)
	}
	failed(t, r, 256, 0, api.ErrShort)
}

func TestReaderNum(t *testing.T) { // P5.2, P5.3
	var all []byte
	for _, x := range numbers {
		for _, limit := range []uint64{x.n, x.n + 1, greatest, 1 << 63, math.MaxUint64} {
			r := From(x.want)
			if n := r.Num(limit); n != x.n {
				t.Errorf("% x: %d, want %d", x.want, n, x.n)
			}
			stands(t, r, len(x.want), 0, api.OK)
		}
		all = append(all, x.want...)
	}
	r := From(all)
	at := 0
	for _, x := range numbers {
		if n := r.Num(x.n); n != x.n {
			t.Errorf("at %d: %d, want %d", at, n, x.n)
		}
		at += len(x.want)
		stands(t, r, at, len(all)-at, api.OK)
	}
	if n := r.Num(greatest); n != 0 {
		t.Errorf("Num at the end: %d", n)
	}
	failed(t, r, at, 0, api.ErrShort)
}

// Wrong numbers with the error of each, of any limit from 100 on.
var wrongNumbers = []struct {
	b []byte
	e api.Errno
}{
	{nil, api.ErrShort}, // nothing is there
	{[]byte{128}, api.ErrShort}, {[]byte{255}, api.ErrShort}, {[]byte{128, 128}, api.ErrShort}, {[]byte{0xac}, api.ErrShort},
	{filled(7, 255), api.ErrShort}, {filled(8, 255), api.ErrShort}, {filled(8, 128), api.ErrShort}, // they end ahead of the last one
	{filled(9, 255), api.ErrForm}, {filled(9, 128), api.ErrForm}, {filled(10, 128), api.ErrForm}, {filled(9, 200, 1), api.ErrForm},
	{filled(9, 255, 0), api.ErrForm}, {filled(9, 128, 1, 2, 3), api.ErrForm}, {filled(40, 255), api.ErrForm}, // too many bytes
	{[]byte{128, 0}, api.ErrForm}, {[]byte{129, 0}, api.ErrForm}, {[]byte{255, 0}, api.ErrForm}, {[]byte{128, 128, 0}, api.ErrForm},
	{[]byte{0xac, 0x82, 0}, api.ErrForm}, {filled(7, 255, 0), api.ErrForm}, {filled(8, 128, 0), api.ErrForm}, {filled(8, 255, 0), api.ErrForm}, // not in as few bytes
	{[]byte{128, 0, 1}, api.ErrForm},
}

func TestReaderWrongNum(t *testing.T) { // P5.2, P5.3
	for _, x := range wrongNumbers {
		// A number that isn't rightly written has its own error at any limit, which is looked at last.
		for _, limit := range []uint64{0, 1, 100, greatest, math.MaxUint64} {
			r := From(x.b)
			if n := r.Num(limit); n != 0 {
				t.Errorf("% x: %d", x.b, n)
			}
			failed(t, r, 0, len(x.b), x.e)
			// behind others that were read
			r = From(append([]byte{7, 0xac, 0x02}, x.b...))
			if r.Byte() != 7 || r.Num(300) != 300 || r.Num(limit) != 0 {
				t.Errorf("behind others: % x", x.b)
			}
			failed(t, r, 3, len(x.b), x.e)
		}
	}
}

func TestReaderNumAboveLimit(t *testing.T) { // P5.2, P5.3
	for _, x := range numbers {
		if x.n == 0 {
			continue
		}
		for _, limit := range []uint64{0, x.n / 2, x.n - 1} {
			r := From(append(slices.Clone(x.want), readable...))
			if n := r.Num(limit); n != 0 {
				t.Errorf("% x with the limit %d: %d", x.want, limit, n)
			}
			failed(t, r, 0, len(x.want)+len(readable), api.ErrRange)
		}
	}
	r := From([]byte{0, 0, 1})
	if r.Num(0) != 0 || r.Num(0) != 0 {
		t.Error("the number 0 is above 0")
	}
	stands(t, r, 2, 1, api.OK)
	if n := r.Num(0); n != 0 {
		t.Errorf("1 with the limit 0: %d", n)
	}
	failed(t, r, 2, 1, api.ErrRange)
}

func TestReaderText(t *testing.T) { // P5.2, P5.3
	for _, s := range []string{"", "a", "hi", "\x00\xff\x80", "é€", strings.Repeat("w", 127), strings.Repeat("v", 128), strings.Repeat("u", 20000)} {
		b := append(digits(uint64(len(s))), s...)
		for _, limit := range []int{len(s), len(s) + 1, math.MaxInt} {
			for _, behind := range [][]byte{nil, {0}, {1, 'b', 'c'}} {
				r := From(append(slices.Clone(b), behind...))
				if got := r.Text(limit); got != s {
					t.Errorf("%q, want %q", got, s)
				}
				stands(t, r, len(b), len(behind), api.OK)
			}
		}
	}
	r := From([]byte{0, 0, 0, 0, 1, 'a'})
	for i, limit := range []int{0, -1, -5, math.MinInt} { // below 0 is as 0
		if got := r.Text(limit); got != "" {
			t.Errorf("an empty text: %q", got)
		}
		stands(t, r, i+1, 5-i, api.OK)
	}
	if got := r.Text(1); got != "a" {
		t.Errorf("%q", got)
	}
	stands(t, r, 6, 0, api.OK)
}

func TestReaderWrongText(t *testing.T) { // P5.2, P5.3
	for _, x := range []struct {
		b     []byte
		limit int
		e     api.Errno
	}{
		{[]byte{3, 'a', 'b', 'c'}, 2, api.ErrRange}, {[]byte{1, 'a'}, 0, api.ErrRange},
		{[]byte{1, 'a'}, -1, api.ErrRange}, {[]byte{1, 'a'}, math.MinInt, api.ErrRange},
		{[]byte{128, 1, 'a'}, 127, api.ErrRange}, {filled(8, 255, 127), 1 << 20, api.ErrRange},
		{[]byte{9}, 8, api.ErrRange}, // above the limit, and too few behind: the length's error is first
		{[]byte{3, 'a', 'b'}, 3, api.ErrShort}, {[]byte{1}, 1, api.ErrShort}, {[]byte{3}, 100, api.ErrShort},
		{[]byte{128, 1, 'a'}, 128, api.ErrShort}, {filled(8, 255, 127), math.MaxInt, api.ErrShort},
		{filled(8, 255, 127, 'a', 'b'), math.MaxInt, api.ErrShort}, {filled(8, 128, 64), math.MaxInt, api.ErrShort},
		{append([]byte{246}, filled(7, 255, 127, 'a')...), math.MaxInt, api.ErrShort},
		{[]byte{4, 1, 'a', 1}, 4, api.ErrShort},
	} {
		r := From(x.b)
		if got := r.Text(x.limit); got != "" {
			t.Errorf("% x: %q", x.b, got)
		}
		failed(t, r, 0, len(x.b), x.e)
		r = From(append([]byte{1, 'z'}, x.b...))
		if first, second := r.Text(1), r.Text(x.limit); first != "z" || second != "" {
			t.Errorf("% x: %q, %q", x.b, first, second)
		}
		failed(t, r, 2, len(x.b), x.e)
	}
	for _, x := range wrongNumbers { // a length that isn't rightly written
		for _, limit := range []int{-1, 0, 100, math.MaxInt} {
			r := From(x.b)
			if got := r.Text(limit); got != "" {
				t.Errorf("% x: %q", x.b, got)
			}
			failed(t, r, 0, len(x.b), x.e)
		}
	}
}

func TestReaderFirstErrorStays(t *testing.T) { // P5.2, P5.3
	for _, x := range []struct {
		b []byte
		e api.Errno
	}{
		{append([]byte{101}, readable...), api.ErrRange},
		{append([]byte{128, 0}, readable...), api.ErrForm},
		{append(filled(9, 128), readable...), api.ErrForm},
		{filled(3, 255), api.ErrShort},
	} {
		for _, ask := range []func(r *Reader) bool{
			func(r *Reader) bool { return r.Num(100) == 0 },
			func(r *Reader) bool { return r.Text(100) == "" },
		} {
			r := From(x.b)
			if !ask(r) {
				t.Errorf("% x: something is told", x.b)
			}
			// what comes behind could be read, or has another error: neither is to be seen
			failed(t, r, 0, len(x.b), x.e)
		}
	}
	r := From(append([]byte{5}, readable...))
	if r.Text(100) != "\x01x\x05\x00\x02" || r.Text(100) != "" {
		t.Error("a text, and none")
	}
	failed(t, r, 6, 2, api.ErrRange)
}

func TestDoneEndsNothing(t *testing.T) { // P5.3
	r := From(readable)
	stands(t, r, 0, 7, api.OK) // Done tells ErrLong, which is no error of the reader's
	if r.Text(1) != "x" {
		t.Error("the text")
	}
	stands(t, r, 2, 5, api.OK)
	if r.Num(5) != 5 || r.Byte() != 0 {
		t.Error("the number and the byte")
	}
	stands(t, r, 4, 3, api.OK)
	if r.Text(2) != "yz" {
		t.Error("the last text")
	}
	stands(t, r, 7, 0, api.OK)
}

func TestReaderMemory(t *testing.T) { // P5.2, and what is handed in is neither changed nor kept
	handed := []byte{2, 'a', 'b', 0xac, 0x02, 9, 1, 1}
	r := From(handed[:6])
	stands(t, r, 0, 6, api.OK)
	other := From(handed[:6])
	for i := range handed {
		handed[i] = 250
	}
	if s, n, b := r.Text(2), r.Num(300), r.Byte(); s != "ab" || n != 300 || b != 9 {
		t.Errorf("%q, %d, %d", s, n, b)
	}
	stands(t, r, 6, 0, api.OK)
	stands(t, other, 0, 6, api.OK) // each reader has come as far as it was asked
	if other.Byte() != 2 || other.Byte() != 'a' {
		t.Error("the other reader")
	}
	stands(t, r, 6, 0, api.OK)
	stands(t, other, 2, 4, api.OK)
	for i, b := range handed {
		if b != 250 {
			t.Errorf("byte %d of what was handed in: %d", i, b)
		}
	}
}

// someBytes are lists of bytes of the kinds on which something hangs.
func someBytes(tell func(b []byte)) {
	kinds := []byte{0, 1, 3, 100, 101, 127, 128, 129, 255}
	var grow func(b []byte)
	grow = func(b []byte) {
		tell(b)
		if len(b) < 5 {
			for _, k := range kinds {
				grow(append(slices.Clone(b), k))
			}
		}
	}
	grow(nil)
	src := rand.New(rand.NewSource(6))
	for range 20000 { // long ones, mostly of bytes of 128 or more
		b := make([]byte, src.Intn(14))
		for i := range b {
			b[i] = byte(src.Intn(256))
			if src.Intn(8) > 0 {
				b[i] |= 128
			}
		}
		tell(b)
	}
}

func TestReaderAgainstReference(t *testing.T) { // P5.2, P5.3
	someBytes(func(b []byte) {
		for _, limit := range []uint64{0, 100, 127, 16383, greatest} {
			r := From(b)
			want, size, e := plainNum(b, limit)
			if n := r.Num(limit); n != want {
				t.Fatalf("% x with the limit %d: %d, want %d", b, limit, n, want)
			}
			stands(t, r, size, len(b)-size, e)
		}
		for _, limit := range []int{-1, 0, 1, 3, math.MaxInt} {
			r := From(b)
			want, size, e := plainText(b, limit)
			if s := r.Text(limit); s != want {
				t.Fatalf("% x with the limit %d: %q, want %q", b, limit, s, want)
			}
			stands(t, r, size, len(b)-size, e)
		}
	})
}

// piece is one thing that is written, and read.
type piece struct {
	kind byte
	n    uint64
	text string
}

func (p piece) write(w *Writer) {
	switch p.kind {
	case 0:
		w.Byte(byte(p.n))
	case 1:
		w.Num(p.n)
	case 2:
		w.Text(p.text)
	}
}

func (p piece) read(r *Reader) bool {
	switch p.kind {
	case 0:
		return r.Byte() == byte(p.n)
	case 1:
		return r.Num(p.n) == p.n
	}
	return r.Text(len(p.text)) == p.text
}

func TestWhatIsWrittenIsRead(t *testing.T) { // P5.1, P5.2, P5.3
	src := rand.New(rand.NewSource(7))
	for range 300 {
		var pieces []piece
		var w Writer
		for range src.Intn(30) {
			text := make([]byte, src.Intn(200))
			src.Read(text)
			p := piece{byte(src.Intn(3)), src.Uint64() >> (1 + src.Intn(63)), string(text)}
			p.write(&w)
			pieces = append(pieces, p)
		}
		all := w.Bytes()
		r := From(all)
		for i, p := range pieces {
			if !p.read(r) {
				t.Fatalf("piece %d: %d, %d, %q", i, p.kind, p.n, p.text)
			}
		}
		stands(t, r, len(all), 0, api.OK)
		if len(all) == 0 {
			continue
		}
		short := From(all[:len(all)-1]) // the last piece is cut off, the others are there
		for i, p := range pieces {
			if last := i == len(pieces)-1; !last && !p.read(short) {
				t.Fatalf("piece %d of those that are cut off: %d, %d, %q", i, p.kind, p.n, p.text)
			} else if last {
				at, left := short.At(), short.Left()
				p.read(short)
				failed(t, short, at, left, api.ErrShort)
			}
		}
	}
}

func TestEndsAtAnyArguments(t *testing.T) { // P1
	nums := []uint64{0, 1, 127, 128, 1 << 32, greatest, 1 << 63, math.MaxUint64}
	ints := []int{math.MinInt, math.MinInt + 1, -1, 0, 1, 64, math.MaxInt - 1, math.MaxInt}
	someBytes(func(b []byte) {
		r := From(b)
		for i := range 6 {
			r.Num(nums[(len(b)+i)%len(nums)])
			r.Text(ints[(len(b)+3*i)%len(ints)])
			r.Byte()
			if r.At()+r.Left() != len(b) || r.At() < 0 || r.Left() < 0 {
				t.Fatalf("% x: %d read, %d left", b, r.At(), r.Left())
			}
		}
	})
	var w Writer
	for _, n := range nums {
		w.Num(n)
	}
	w.Text(strings.Repeat("\xff", 1<<20))
	w.Raw(make([]byte, 1<<20)...)
	if want := 1 + 1 + 1 + 2 + 5 + 9 + 1 + 9 + 3 + 1<<20 + 1<<20; w.Len() != want {
		t.Errorf("%d bytes, want %d", w.Len(), want)
	}
}
