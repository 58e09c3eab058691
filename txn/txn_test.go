package txn

import (
	"bytes"
	"math"
	"math/rand"
	"slices"
	"strings"
	"testing"

	"copyist/api"
	"copyist/ident"
	"copyist/op"
	"copyist/pack"
	"copyist/span"
)

// The limits as numbers, as the document says them, not as the program takes them.
const (
	mostN      = 268435456
	mostSeq    = 268435456
	mostClock  = 1099511627776
	mostWriter = 65535
	lastUser   = 7
	mostOps    = 16
)

func id(r uint16, n uint32) ident.ID { return ident.ID{R: r, N: n} }

func sp(r uint16, n uint32, length int) span.Span { return span.Span{ID: id(r, n), Len: length} }

func ins(n uint32, s string) op.Op { return op.Op{Kind: op.Insert, N: n, Text: s} }

func del(l ...span.Span) op.Op { return op.Op{Kind: op.Delete, Spans: l} }

func move(n uint32, l ...span.Span) op.Op { return op.Op{Kind: op.Move, N: n, Spans: l} }

func undo(seq uint32) op.Op { return op.Op{Kind: op.Undo, Seq: seq} }

func redo(seq uint32) op.Op { return op.Op{Kind: op.Redo, Seq: seq} }

// of is a transaction of these operations, of which all else may be.
func of(ops ...op.Op) Txn { return Txn{R: 3, Seq: 5, Clock: 9, User: 2, Ops: ops} }

// row are insertions of one byte each, whose numbers follow one another.
func row(count int) []op.Op {
	var l []op.Op
	for i := range count {
		l = append(l, ins(uint32(7+i), "x"))
	}
	return l
}

func sameOp(a, b op.Op) bool {
	return a.Kind == b.Kind && a.Anchor == b.Anchor && a.N == b.N && a.Text == b.Text && slices.Equal(a.Spans, b.Spans) && a.Seq == b.Seq
}

// same tells whether two transactions have the same fields; lists that are nil and empty are one.
func same(a, b Txn) bool {
	return a.R == b.R && a.Seq == b.Seq && a.Clock == b.Clock && a.User == b.User && slices.EqualFunc(a.Ops, b.Ops, sameOp)
}

// made is the reference for the numbers of the atoms that an operation makes, one by one.
func made(o op.Op) []int {
	count := len(o.Text)
	for _, s := range o.Spans {
		if o.Kind == 3 {
			count += s.Len
		}
	}
	var all []int
	for i := range count {
		all = append(all, int(o.N)+i)
	}
	return all
}

// plainFit is the reference for Fit: all that is wrong, in the order of the promise, of which the first one is told.
func plainFit(t Txn) api.Errno {
	var wrong []api.Errno
	when := func(bad bool, e api.Errno) {
		if bad {
			wrong = append(wrong, e)
		}
	}
	when(t.Seq == 0 || t.Seq > mostSeq, api.ErrForm)
	when(t.Clock == 0 || t.Clock > mostClock, api.ErrForm)
	when(t.User < 0 || t.User > lastUser, api.ErrForm)
	when(len(t.Ops) == 0, api.ErrForm)
	when(len(t.Ops) > mostOps, api.ErrMany)
	var numbers []int // of all atoms that are made ahead
	for _, o := range t.Ops {
		when(o.Fit() != api.OK, o.Fit())
		when(o.Kind >= 4 && len(t.Ops) != 1, api.ErrForm)
		when(o.Kind >= 4 && o.Seq >= t.Seq, api.ErrForm)
		if len(wrong) > 0 { // of what doesn't fit there may be more atoms than memory
			return wrong[0]
		}
		numbers = append(numbers, made(o)...)
		for i := range numbers {
			when(numbers[i] != numbers[0]+i, api.ErrForm)
		}
	}
	if len(wrong) > 0 {
		return wrong[0]
	}
	return api.OK
}

func plainAtoms(t Txn) int {
	count := 0
	for _, o := range t.Ops {
		count += len(made(o))
	}
	return count
}

func plainUndoes(t Txn) (ID, bool) {
	for _, o := range t.Ops {
		if o.Kind == 4 || o.Kind == 5 {
			return ID{R: t.R, Seq: o.Seq}, true
		}
	}
	return ID{}, false
}

// number is the reference for a number's bytes.
func number(n int) []byte {
	if n < 128 {
		return []byte{byte(n)}
	}
	return append([]byte{byte(n%128) + 128}, number(n/128)...)
}

// written are numbers, one behind the other.
func written(numbers ...int) []byte {
	var out []byte
	for _, n := range numbers {
		out = append(out, number(n)...)
	}
	return out
}

func opBytes(o op.Op) []byte {
	var w pack.Writer
	o.Put(&w)
	return w.Bytes()
}

func plainPut(t Txn) []byte {
	out := written(int(t.R), int(t.Seq), int(t.Clock), t.User, len(t.Ops))
	for _, o := range t.Ops {
		out = append(out, opBytes(o)...)
	}
	return out
}

// plainNumber is the number at the head of bytes, how many bytes it has, and what is wrong of it, by layer 5's chapter.
func plainNumber(b []byte, limit int) (int, int, api.Errno) {
	size := 1 + slices.IndexFunc(b, func(x byte) bool { return x < 128 })
	if size > 9 || size == 0 && len(b) >= 9 {
		return 0, 0, api.ErrForm
	}
	if size == 0 {
		return 0, 0, api.ErrShort
	}
	n := 0
	for i := size - 1; i >= 0; i-- {
		n = n*128 + int(b[i])%128
	}
	if len(number(n)) != size {
		return 0, 0, api.ErrForm
	}
	if n > limit {
		return 0, 0, api.ErrRange
	}
	return n, size, api.OK
}

// plainGet is the reference for Get: the transaction, how many bytes were read, and the error. Operations are read by layer 8, each by a reader of its own.
func plainGet(b []byte) (Txn, int, api.Errno) {
	at := 0
	var head []int
	for _, limit := range []int{mostWriter, mostSeq, mostClock, lastUser, mostOps} {
		n, size, e := plainNumber(b[at:], limit)
		if e != api.OK {
			return Txn{}, at, e
		}
		head = append(head, n)
		at += size
	}
	t := Txn{R: uint16(head[0]), Seq: uint32(head[1]), Clock: uint64(head[2]), User: head[3]}
	for len(t.Ops) < head[4] {
		r := pack.From(b[at:])
		t.Ops = append(t.Ops, op.Get(r))
		at += r.At()
		if r.Error() != api.OK {
			return Txn{}, at, r.Error()
		}
	}
	return t, at, api.OK
}

func put(t Txn) []byte {
	var w pack.Writer
	t.Put(&w)
	return w.Bytes()
}

// getHolds looks at what Get tells of bytes, and at what it leaves of the reader.
func getHolds(t *testing.T, b []byte) {
	t.Helper()
	want, at, e := plainGet(b)
	r := pack.From(b)
	if x := Get(r); !same(x, want) || r.Error() != e || r.At() != at {
		t.Fatalf("Get of % x: %v, error %d, %d read; want %v, error %d, %d read", b, x, r.Error(), r.At(), want, e, at)
	}
}

// holds looks at all that the calls tell of a transaction.
func holds(t *testing.T, x Txn) {
	t.Helper()
	if x.ID() != (ID{R: x.R, Seq: x.Seq}) {
		t.Fatalf("ID of %v: %v", x, x.ID())
	}
	e := plainFit(x)
	if got := x.Fit(); got != e {
		t.Fatalf("Fit of %v: %d, want %d", x, got, e)
	}
	if e != api.OK {
		return
	}
	if got, want := x.Atoms(), plainAtoms(x); got != want {
		t.Fatalf("Atoms of %v: %d, want %d", x, got, want)
	}
	want, is := plainUndoes(x)
	if got, ok := x.Undoes(); got != want || ok != is {
		t.Fatalf("Undoes of %v: %v, %t, want %v, %t", x, got, ok, want, is)
	}
	b := plainPut(x)
	if got := put(x); !bytes.Equal(got, b) {
		t.Fatalf("Put of %v: % x, want % x", x, got, b)
	}
	if got, _, _ := plainGet(b); !same(got, x) {
		t.Fatalf("%v is read as %v", x, got)
	}
	getHolds(t, b)
}

// fitting are transactions that fit, at the ends of what may be.
func fitting() []Txn {
	gone := del(sp(1, 1, 1))
	return []Txn{
		of(ins(4, "ab"), ins(6, "c")), of(ins(1, "a")), of(gone), of(move(1, sp(1, 1, 1))), of(undo(4)), of(redo(4)), of(undo(1)), of(redo(1)),
		{Seq: 1, Clock: 1, Ops: []op.Op{gone}},
		{R: mostWriter, Seq: mostSeq, Clock: mostClock, User: lastUser, Ops: []op.Op{undo(mostSeq - 1)}},
		{R: mostWriter, Seq: mostSeq, Clock: mostClock, User: lastUser, Ops: []op.Op{redo(1)}},
		{R: 300, Seq: 300, Clock: 300, User: 1, Ops: []op.Op{gone, ins(300, "hello\n"), gone, move(306, sp(1, 1, 3), sp(2, 1, 2)), gone, ins(311, "~")}},
		{Seq: 2, Clock: 128, User: 3, Ops: slices.Repeat([]op.Op{gone}, 16)}, of(row(16)...), of(row(2)...),
		of(ins(mostN-1, "a"), ins(mostN, "b")), of(ins(mostN, "b"), gone), of(gone, gone, move(mostN-1023, sp(0, 1, 1024))),
		of(move(1, sp(1, 1, 1024)), move(1025, sp(1, 1, 1024)), ins(2049, strings.Repeat("a", 64)), move(2113, sp(mostWriter, mostN, 1))),
	}
}

func TestChapterExample(t *testing.T) { // P9.1
	x := of(ins(4, "ab"), ins(6, "c"))
	if x.Fit() != api.OK || x.Atoms() != 3 {
		t.Error(x.Fit(), x.Atoms())
	}
	if e := of(ins(4, "ab"), ins(7, "c")).Fit(); e != api.ErrForm {
		t.Error(e)
	}
}

func TestThoseThatFit(t *testing.T) { // P9.1, P9.2, P9.3
	for i, x := range fitting() {
		if e := x.Fit(); e != api.OK {
			t.Errorf("%d: %d", i, e)
		}
		holds(t, x)
	}
}

func TestFitOfSeqs(t *testing.T) { // P9.1
	for _, x := range []struct {
		seq  uint32
		want api.Errno
	}{{0, api.ErrForm}, {1, api.OK}, {2, api.OK}, {mostSeq - 1, api.OK}, {mostSeq, api.OK}, {mostSeq + 1, api.ErrForm}, {1 << 31, api.ErrForm}, {math.MaxUint32, api.ErrForm}} {
		a := of(ins(1, "a"))
		a.Seq = x.seq
		if e := a.Fit(); e != x.want {
			t.Errorf("%d: %d, want %d", x.seq, e, x.want)
		}
		holds(t, a)
	}
}

func TestFitOfClocks(t *testing.T) { // P9.1
	for _, x := range []struct {
		clock uint64
		want  api.Errno
	}{{0, api.ErrForm}, {1, api.OK}, {1 << 32, api.OK}, {mostClock - 1, api.OK}, {mostClock, api.OK}, {mostClock + 1, api.ErrForm}, {1 << 63, api.ErrForm}, {math.MaxUint64, api.ErrForm}} {
		a := of(ins(1, "a"))
		a.Clock = x.clock
		if e := a.Fit(); e != x.want {
			t.Errorf("%d: %d, want %d", x.clock, e, x.want)
		}
		holds(t, a)
	}
}

func TestFitOfUsers(t *testing.T) { // P9.1
	for _, x := range []struct {
		user int
		want api.Errno
	}{{math.MinInt, api.ErrForm}, {-8, api.ErrForm}, {-1, api.ErrForm}, {0, api.OK}, {1, api.OK}, {6, api.OK}, {7, api.OK}, {8, api.ErrForm}, {256, api.ErrForm}, {1 << 32, api.ErrForm}, {math.MaxInt, api.ErrForm}} {
		a := of(ins(1, "a"))
		a.User = x.user
		if e := a.Fit(); e != x.want {
			t.Errorf("%d: %d, want %d", x.user, e, x.want)
		}
		holds(t, a)
	}
	for _, r := range []uint16{0, 1, mostWriter} { // a replica may be any
		a := of(ins(1, "a"))
		a.R = r
		if e := a.Fit(); e != api.OK {
			t.Errorf("replica %d: %d", r, e)
		}
	}
}

func TestFitOfHowManyOperations(t *testing.T) { // P9.1
	for _, x := range []struct {
		count int
		want  api.Errno
	}{{0, api.ErrForm}, {1, api.OK}, {2, api.OK}, {15, api.OK}, {16, api.OK}, {17, api.ErrMany}, {18, api.ErrMany}, {32, api.ErrMany}, {1000, api.ErrMany}} {
		for _, ops := range [][]op.Op{row(x.count), slices.Repeat([]op.Op{del(sp(1, 1, 1))}, x.count)} {
			if e := of(ops...).Fit(); e != x.want {
				t.Errorf("%d: %d, want %d", x.count, e, x.want)
			}
			holds(t, of(ops...))
		}
	}
	if e := of([]op.Op{}...).Fit(); e != api.ErrForm {
		t.Error(e)
	}
	if e := of(row(3)[:0]...).Fit(); e != api.ErrForm {
		t.Error(e)
	}
}

// wrongOp is an operation of which layer 8's Fit tells an error.
type wrongOp struct {
	o op.Op
	e api.Errno
}

func wrongOps() []wrongOp {
	var many []span.Span
	for i := range 1025 {
		many = append(many, sp(uint16(i), 1, 1))
	}
	return []wrongOp{
		{op.Op{}, api.ErrForm}, {op.Op{Kind: 6}, api.ErrForm}, {op.Op{Kind: -1}, api.ErrForm}, {ins(8, ""), api.ErrForm}, {ins(8, "\t"), api.ErrForm}, {ins(0, "a"), api.ErrForm},
		{ins(mostN, "ab"), api.ErrForm}, {ins(mostN+1, "a"), api.ErrForm}, {del(), api.ErrForm}, {del(sp(1, 0, 1)), api.ErrForm}, {move(8), api.ErrForm}, {move(0, sp(1, 1, 1)), api.ErrForm},
		{op.Op{Kind: op.Insert, Anchor: id(1, 0), N: 8, Text: "a"}, api.ErrForm}, {op.Op{Kind: op.Insert, N: 8, Text: "a", Seq: 1}, api.ErrForm},
		{ins(8, strings.Repeat("a", 65)), api.ErrLong}, {del(sp(1, 1, 1024), sp(2, 1, 1)), api.ErrLong}, {move(8, sp(1, 1, 1024), sp(2, 1, 1)), api.ErrLong},
		{del(many...), api.ErrMany}, {move(8, many...), api.ErrMany}, {del(sp(1, 1, 1), sp(1, 1, 1)), api.ErrTwice}, {move(8, sp(1, 1, 3), sp(1, 3, 1)), api.ErrTwice},
		{undo(0), api.ErrForm}, {redo(0), api.ErrForm}, {undo(mostSeq + 1), api.ErrForm}, {op.Op{Kind: op.Redo, Seq: 1, N: 1}, api.ErrForm},
	}
}

func TestFitOfOperationsThatDoNot(t *testing.T) { // P9.1
	for i, x := range wrongOps() {
		if e := x.o.Fit(); e != x.e {
			t.Fatalf("%d: layer 8's error is %d, not %d", i, e, x.e)
		}
		for place := range 16 { // the first one, a later one, the last one that may be
			for _, size := range []int{place + 1, 16} {
				ops := row(size)
				ops[place] = x.o
				if e := of(ops...).Fit(); e != x.e {
					t.Errorf("%d at %d of %d: %d, want %d", i, place, size, e, x.e)
				}
				holds(t, of(ops...))
			}
		}
	}
}

func TestFitOfUndoAndRedo(t *testing.T) { // P9.1
	gone := del(sp(1, 1, 1))
	for _, turn := range []func(uint32) op.Op{undo, redo} {
		for _, x := range []struct {
			seq, of uint32
			want    api.Errno
		}{
			{5, 1, api.OK}, {5, 3, api.OK}, {5, 4, api.OK}, {5, 5, api.ErrForm}, {5, 6, api.ErrForm}, {5, mostSeq, api.ErrForm},
			{1, 1, api.ErrForm}, {1, 2, api.ErrForm}, {2, 1, api.OK}, {2, 2, api.ErrForm},
			{mostSeq, 1, api.OK}, {mostSeq, mostSeq - 1, api.OK}, {mostSeq, mostSeq, api.ErrForm}, {5, 0, api.ErrForm},
		} {
			a := of(turn(x.of))
			a.Seq = x.seq
			if e := a.Fit(); e != x.want {
				t.Errorf("%d of %d: %d, want %d", x.of, x.seq, e, x.want)
			}
			holds(t, a)
		}
		// Beside others, whatever they are, and wherever it stands.
		for _, other := range []op.Op{gone, ins(1, "a"), move(1, sp(1, 1, 1)), undo(4), redo(4), undo(3), redo(1)} {
			for _, a := range []Txn{of(turn(4), other), of(other, turn(4)), of(gone, other, turn(4)), of(gone, turn(1), other), of(turn(4), other, gone)} {
				if e := a.Fit(); e != api.ErrForm {
					t.Errorf("%v: %d", a, e)
				}
				holds(t, a)
			}
		}
		for place := range 16 {
			ops := row(16)
			ops[place] = turn(4)
			if e := of(ops...).Fit(); e != api.ErrForm {
				t.Errorf("at %d of 16: %d", place, e)
			}
		}
	}
}

func TestFitOfNumbers(t *testing.T) { // P9.1
	gone, three := del(sp(1, 1, 1), sp(2, 5, 9)), []span.Span{sp(1, 1, 2), sp(9, 9, 1)}
	for i, x := range []struct {
		ops  []op.Op
		want api.Errno
	}{
		// The first one that makes atoms may have any number.
		{[]op.Op{ins(1, "a")}, api.OK}, {[]op.Op{ins(77, "a")}, api.OK}, {[]op.Op{gone, ins(77, "a")}, api.OK}, {[]op.Op{gone, gone, move(77, three...)}, api.OK}, {[]op.Op{ins(mostN, "a")}, api.OK},
		// They follow one another, one is left out, one comes twice.
		{[]op.Op{ins(4, "ab"), ins(6, "c")}, api.OK}, {[]op.Op{ins(4, "ab"), ins(7, "c")}, api.ErrForm}, {[]op.Op{ins(4, "ab"), ins(5, "c")}, api.ErrForm}, {[]op.Op{ins(4, "ab"), ins(4, "c")}, api.ErrForm},
		{[]op.Op{ins(4, "ab"), ins(3, "c")}, api.ErrForm}, {[]op.Op{ins(4, "ab"), ins(1, "c")}, api.ErrForm}, {[]op.Op{ins(4, "ab"), ins(mostN, "c")}, api.ErrForm},
		{[]op.Op{move(4, three...), ins(7, "c")}, api.OK}, {[]op.Op{move(4, three...), ins(6, "c")}, api.ErrForm}, {[]op.Op{move(4, three...), ins(8, "c")}, api.ErrForm},
		{[]op.Op{ins(4, "ab"), move(6, three...)}, api.OK}, {[]op.Op{ins(4, "ab"), move(5, three...)}, api.ErrForm}, {[]op.Op{ins(4, "ab"), move(7, three...)}, api.ErrForm}, {[]op.Op{move(4, three...), move(7, three...)}, api.OK}, {[]op.Op{move(4, three...), move(4, three...)}, api.ErrForm},
		// Operations between that make none take no number, and leave off none.
		{[]op.Op{ins(4, "ab"), gone, ins(6, "c")}, api.OK}, {[]op.Op{ins(4, "ab"), gone, gone, move(6, three...), gone, ins(9, "c"), gone}, api.OK},
		{[]op.Op{ins(4, "ab"), gone, ins(7, "c")}, api.ErrForm}, {[]op.Op{ins(4, "ab"), gone, ins(5, "c")}, api.ErrForm}, {[]op.Op{ins(4, "ab"), gone, ins(4, "c")}, api.ErrForm}, {[]op.Op{ins(4, "ab"), gone, ins(1, "c")}, api.ErrForm},
		// Of three the last one is held against all ahead of it, not against the first one alone.
		{[]op.Op{ins(4, "ab"), ins(6, "c"), ins(7, "d")}, api.OK}, {[]op.Op{ins(4, "ab"), ins(6, "c"), ins(6, "d")}, api.ErrForm}, {[]op.Op{ins(4, "ab"), ins(6, "c"), ins(8, "d")}, api.ErrForm}, {[]op.Op{ins(4, "ab"), ins(7, "c"), ins(6, "d")}, api.ErrForm},
		// Up to the greatest number, and past it.
		{[]op.Op{ins(mostN-1, "a"), ins(mostN, "b")}, api.OK}, {[]op.Op{ins(mostN, "a"), ins(mostN, "b")}, api.ErrForm}, {[]op.Op{ins(mostN, "a"), ins(mostN+1, "b")}, api.ErrForm}, {[]op.Op{ins(mostN, "a"), ins(1, "b")}, api.ErrForm}, {[]op.Op{ins(mostN, "a"), gone}, api.OK},
	} {
		if e := of(x.ops...).Fit(); e != x.want {
			t.Errorf("%d: %d, want %d", i, e, x.want)
		}
		holds(t, of(x.ops...))
	}
	// Of as many as may be, each one is looked at.
	for place := 1; place < 16; place++ {
		for _, change := range []uint32{1, math.MaxUint32} { // one more, one less
			ops := row(16)
			ops[place].N += change
			if e := of(ops...).Fit(); e != api.ErrForm {
				t.Errorf("%d of 16: %d", place, e)
			}
		}
	}
}

func TestFitTellsTheFirst(t *testing.T) { // P9.1
	long, twice, gone := ins(6, strings.Repeat("a", 65)), del(sp(1, 1, 1), sp(1, 1, 1)), del(sp(1, 1, 1))
	head := func(seq uint32, clock uint64, user int, ops ...op.Op) Txn {
		return Txn{R: 1, Seq: seq, Clock: clock, User: user, Ops: ops}
	}
	for i, x := range []struct {
		a    Txn
		want api.Errno
	}{
		// The number, the time and the user, ahead of too many, and of what operations tell.
		{head(0, 1, 0, row(17)...), api.ErrForm}, {head(1, 0, 0, row(17)...), api.ErrForm}, {head(1, 1, 8, row(17)...), api.ErrForm}, {head(1, 1, -1, row(17)...), api.ErrForm},
		{head(mostSeq+1, 1, 0, long), api.ErrForm}, {head(1, mostClock+1, 0, twice), api.ErrForm}, {head(1, 1, 8, long), api.ErrForm}, {head(0, 0, -1), api.ErrForm},
		// Too many, ahead of what operations tell.
		{of(slices.Repeat([]op.Op{long}, 17)...), api.ErrMany}, {of(make([]op.Op, 17)...), api.ErrMany}, {of(slices.Repeat([]op.Op{undo(9)}, 17)...), api.ErrMany}, {of(slices.Repeat([]op.Op{ins(1, "a")}, 17)...), api.ErrMany}, {of(append(row(16), twice)...), api.ErrMany},
		// The first operation that is wrong, whatever is wrong of it.
		{of(long, twice), api.ErrLong}, {of(twice, long), api.ErrTwice}, {of(gone, twice, long), api.ErrTwice}, {of(gone, op.Op{}, long), api.ErrForm}, {of(long, op.Op{}), api.ErrLong},
		{of(undo(4), long), api.ErrForm}, {of(long, undo(4)), api.ErrLong}, {of(redo(9), twice), api.ErrForm}, {of(twice, redo(9)), api.ErrTwice}, {of(gone, redo(4), twice), api.ErrForm},
		{of(ins(4, "ab"), ins(7, "c"), long), api.ErrForm}, {of(ins(4, "ab"), long, ins(7, "c")), api.ErrLong}, {of(twice, ins(4, "ab"), ins(7, "c")), api.ErrTwice}, {of(ins(4, "ab"), ins(7, "c"), twice), api.ErrForm},
		// Layer 8's error, ahead of a number that doesn't follow.
		{of(ins(1, "a"), long), api.ErrLong}, {of(ins(1, "a"), move(9, sp(1, 1, 1), sp(1, 1, 1))), api.ErrTwice}, {of(ins(1, "a"), move(1, sp(1, 1, 1024), sp(2, 1, 1))), api.ErrLong},
	} {
		if e := x.a.Fit(); e != x.want {
			t.Errorf("%d: %d, want %d", i, e, x.want)
		}
		if e := plainFit(x.a); e != x.want {
			t.Errorf("%d: the reference tells %d, want %d", i, e, x.want)
		}
	}
}

func TestAtoms(t *testing.T) { // P9.1
	gone := del(sp(1, 1, 1024))
	for i, x := range []struct {
		a    Txn
		want int
	}{
		{of(ins(1, "a")), 1}, {of(ins(4, "ab"), ins(6, "c")), 3}, {of(gone), 0}, {of(gone, gone), 0}, {of(undo(4)), 0}, {of(redo(4)), 0},
		{of(move(1, sp(1, 1, 1024))), 1024}, {of(gone, move(1, sp(1, 1, 3), sp(2, 1, 4)), gone, ins(8, "a\nb")), 10}, {of(row(16)...), 16},
	} {
		if e, n := x.a.Fit(), x.a.Atoms(); e != api.OK || n != x.want {
			t.Errorf("%d: %d, %d atoms, want %d", i, e, n, x.want)
		}
	}
	var most []op.Op
	for i := range 16 {
		most = append(most, move(uint32(1+1024*i), sp(1, 1, 1024)))
	}
	if a := of(most...); a.Fit() != api.OK || a.Atoms() != 16384 {
		t.Error(a.Fit(), a.Atoms())
	}
}

func TestUndoes(t *testing.T) { // P9.1
	for _, r := range []uint16{0, 1, mostWriter} {
		for _, o := range []op.Op{undo(1), undo(4), redo(1), redo(3)} {
			a := Txn{R: r, Seq: 5, Clock: 1, Ops: []op.Op{o}}
			if got, ok := a.Undoes(); a.Fit() != api.OK || !ok || got != (ID{R: r, Seq: o.Seq}) {
				t.Errorf("%v: %v, %t", a, got, ok)
			}
		}
	}
	a := Txn{R: 2, Seq: mostSeq, Clock: 1, Ops: []op.Op{redo(mostSeq - 1)}}
	if got, ok := a.Undoes(); !ok || got != (ID{R: 2, Seq: mostSeq - 1}) {
		t.Error(got, ok)
	}
	gone := del(sp(1, 1, 1))
	for _, a := range []Txn{of(ins(1, "a")), of(gone), of(move(1, sp(1, 1, 1))), of(gone, gone), of(ins(4, "ab"), gone, ins(6, "c")), of(row(16)...)} {
		if got, ok := a.Undoes(); a.Fit() != api.OK || ok || got != (ID{}) {
			t.Errorf("%v: %v, %t", a, got, ok)
		}
	}
}

func TestNamesAndKeys(t *testing.T) { // P9.2
	for _, r := range []uint16{0, 1, 300, mostWriter} {
		for _, seq := range []uint32{0, 1, mostSeq, mostSeq + 1, math.MaxUint32} {
			for _, clock := range []uint64{0, 1, mostClock, mostClock + 1, math.MaxUint64} {
				for _, n := range []uint32{0, 1, 6, mostN, mostN + 1, math.MaxUint32} {
					for _, ops := range [][]op.Op{nil, row(1), {undo(4)}, row(17), {{}}} {
						a := Txn{R: r, Seq: seq, Clock: clock, User: -3, Ops: ops}
						if got := a.ID(); got != (ID{R: r, Seq: seq}) {
							t.Fatalf("%v: %v", a, got)
						}
						if got := a.Key(n); got != (ident.Key{Clock: clock, R: r, N: n}) {
							t.Fatalf("%v, %d: %v", a, n, got)
						}
					}
				}
			}
		}
	}
}

func TestPut(t *testing.T) { // P9.3
	for i, x := range []struct {
		a    Txn
		want []byte
	}{
		{Txn{R: 1, Seq: 5, Clock: 9, User: 3, Ops: []op.Op{ins(4, "ab"), del(sp(2, 6, 1)), ins(6, "c")}}, []byte{1, 5, 9, 3, 3, 1, 0, 0, 4, 2, 'a', 'b', 2, 1, 2, 6, 1, 1, 0, 0, 6, 1, 'c'}},
		{Txn{Seq: 2, Clock: 1, Ops: []op.Op{undo(1)}}, []byte{0, 2, 1, 0, 1, 4, 1}},
		{Txn{R: 300, Seq: 129, Clock: 1 << 14, User: 7, Ops: []op.Op{redo(128)}}, []byte{0xac, 2, 0x81, 1, 0x80, 0x80, 1, 7, 1, 5, 0x80, 1}},
		{Txn{R: mostWriter, Seq: mostSeq, Clock: mostClock, User: 7, Ops: []op.Op{undo(mostSeq - 1)}}, []byte{0xff, 0xff, 3, 0x80, 0x80, 0x80, 0x80, 1, 0x80, 0x80, 0x80, 0x80, 0x80, 0x20, 7, 1, 4, 0xff, 0xff, 0xff, 0x7f}},
	} {
		if got := put(x.a); x.a.Fit() != api.OK || !bytes.Equal(got, x.want) {
			t.Errorf("%d: % x, want % x", i, got, x.want)
		}
		holds(t, x.a)
	}
	// Behind what was written, and ahead of what is.
	var w pack.Writer
	w.Text("ab")
	Txn{R: 9, Seq: 8, Clock: 7, User: 6, Ops: []op.Op{undo(5)}}.Put(&w)
	Txn{R: 1, Seq: 2, Clock: 3, User: 4, Ops: []op.Op{redo(1)}}.Put(&w)
	w.Byte(255)
	if got := w.Bytes(); !bytes.Equal(got, []byte{2, 'a', 'b', 9, 8, 7, 6, 1, 4, 5, 1, 2, 3, 4, 1, 5, 1, 255}) {
		t.Errorf("% x", got)
	}
}

func TestGetOfWhatWasPut(t *testing.T) { // P9.3
	var w pack.Writer
	for _, a := range fitting() {
		a.Put(&w)
		r := pack.From(append(append([]byte{77}, put(a)...), 0xab, 0xcd))
		r.Byte()
		if got := Get(r); !same(got, a) || r.Error() != api.OK || r.Left() != 2 || r.Byte() != 0xab {
			t.Errorf("%v: %v, error %d, %d left", a, got, r.Error(), r.Left())
		}
	}
	// All of them, one behind the other.
	r := pack.From(w.Bytes())
	for _, a := range fitting() {
		if got := Get(r); !same(got, a) {
			t.Errorf("%v: %v", a, got)
		}
	}
	if r.Done() != api.OK {
		t.Error(r.Done())
	}
}

func TestGetOfThoseThatDoNotFit(t *testing.T) { // P9.3
	for i, x := range []struct {
		b    []byte
		want Txn
	}{
		{[]byte{0, 0, 0, 0, 0}, Txn{}}, {[]byte{1, 2, 3, 4, 0}, Txn{R: 1, Seq: 2, Clock: 3, User: 4}},
		{[]byte{1, 0, 3, 4, 1, 4, 9}, Txn{R: 1, Clock: 3, User: 4, Ops: []op.Op{undo(9)}}}, {[]byte{1, 2, 0, 4, 1, 5, 1}, Txn{R: 1, Seq: 2, User: 4, Ops: []op.Op{redo(1)}}},
		{[]byte{1, 2, 3, 4, 1, 4, 2}, Txn{R: 1, Seq: 2, Clock: 3, User: 4, Ops: []op.Op{undo(2)}}}, {[]byte{1, 2, 3, 4, 2, 4, 1, 5, 1}, Txn{R: 1, Seq: 2, Clock: 3, User: 4, Ops: []op.Op{undo(1), redo(1)}}},
		{[]byte{1, 2, 3, 4, 1, 0, 0}, Txn{R: 1, Seq: 2, Clock: 3, User: 4, Ops: []op.Op{{}}}}, {[]byte{1, 2, 3, 4, 1, 2, 0}, Txn{R: 1, Seq: 2, Clock: 3, User: 4, Ops: []op.Op{del()}}},
		{[]byte{1, 2, 3, 4, 2, 1, 0, 0, 4, 1, 'a', 1, 0, 0, 4, 1, 'b'}, Txn{R: 1, Seq: 2, Clock: 3, User: 4, Ops: []op.Op{ins(4, "a"), ins(4, "b")}}},
	} {
		r := pack.From(x.b)
		got := Get(r)
		if !same(got, x.want) || r.Done() != api.OK || got.Fit() == api.OK {
			t.Errorf("%d: %v, %d, want %v", i, got, r.Done(), x.want)
		}
		getHolds(t, x.b)
	}
}

func TestGetAtTheLimits(t *testing.T) { // P9.3
	list := func(count int) []byte {
		return append(written(1, 2, 3, 4, count), bytes.Repeat([]byte{4, 1}, count)...)
	}
	for i, x := range []struct {
		b    []byte
		want api.Errno
	}{
		{written(65535, 1, 1, 1, 1, 4, 1), api.OK}, {written(65536, 1, 1, 1, 1, 4, 1), api.ErrRange}, {written(65536+7, 1, 1, 1, 1, 4, 1), api.ErrRange}, {written(1<<32, 1, 1, 1, 1, 4, 1), api.ErrRange}, {number(math.MaxInt), api.ErrRange},
		{written(1, mostSeq, 1, 1, 1, 4, 1), api.OK}, {written(1, mostSeq+1, 1, 1, 1, 4, 1), api.ErrRange}, {written(1, 1<<32+1, 1, 1, 1, 4, 1), api.ErrRange},
		{written(1, 1, mostClock, 1, 1, 4, 1), api.OK}, {written(1, 1, mostClock+1, 1, 1, 4, 1), api.ErrRange}, {written(1, 1, math.MaxInt, 1, 1, 4, 1), api.ErrRange},
		{written(1, 1, 1, 7, 1, 4, 1), api.OK}, {written(1, 1, 1, 8, 1, 4, 1), api.ErrRange}, {written(1, 1, 1, 256, 1, 4, 1), api.ErrRange}, {written(1, 1, 1, 1<<32, 1, 4, 1), api.ErrRange},
		{list(0), api.OK}, {list(1), api.OK}, {list(15), api.OK}, {list(16), api.OK}, {list(17), api.ErrRange}, {list(300), api.ErrRange}, {written(1, 1, 1, 1, math.MaxInt), api.ErrRange},
		// Layer 8's limits, of a first operation and of a later one.
		{written(1, 1, 1, 1, 1, 6), api.ErrRange}, {written(1, 1, 1, 1, 2, 4, 1, 6), api.ErrRange}, {written(1, 1, 1, 1, 1, 4, mostSeq), api.OK}, {written(1, 1, 1, 1, 1, 4, mostSeq+1), api.ErrRange}, {written(1, 1, 1, 1, 2, 4, 1, 5, mostSeq+1), api.ErrRange},
		// Numbers that aren't in as few bytes as they have.
		{[]byte{0x81, 0, 1, 1, 1, 1, 4, 1}, api.ErrForm}, {[]byte{1, 0x81, 0, 1, 1, 1, 4, 1}, api.ErrForm}, {[]byte{1, 1, 0x81, 0, 1, 1, 4, 1}, api.ErrForm}, {[]byte{1, 1, 1, 0x81, 0, 1, 4, 1}, api.ErrForm}, {[]byte{1, 1, 1, 1, 0x81, 0, 4, 1}, api.ErrForm}, {[]byte{1, 1, 1, 1, 1, 0x84, 0, 1}, api.ErrForm},
		{bytes.Repeat([]byte{0x80}, 9), api.ErrForm}, {append([]byte{1, 1}, bytes.Repeat([]byte{0xff}, 9)...), api.ErrForm},
	} {
		r := pack.From(x.b)
		if a := Get(r); r.Error() != x.want || x.want != api.OK && !same(a, Txn{}) || x.want == api.OK && r.Left() != 0 {
			t.Errorf("%d: %v, error %d, want %d, %d left", i, a, r.Error(), x.want, r.Left())
		}
		getHolds(t, x.b)
	}
}

func TestGetOfCutBytes(t *testing.T) { // P9.3
	for _, a := range fitting() {
		b := put(a)
		for i := range b {
			r := pack.From(b[:i])
			if got := Get(r); !same(got, Txn{}) || got.Ops != nil || r.Error() != api.ErrShort {
				t.Fatalf("% x: %v, %d", b[:i], got, r.Error())
			}
			getHolds(t, b[:i])
		}
	}
}

func TestGetBehindAnError(t *testing.T) { // P9.3
	for _, a := range fitting() {
		for _, spoil := range []func(*pack.Reader){
			func(r *pack.Reader) { r.Byte(); r.Byte(); r.Text(-1); r.Num(0) },
			func(r *pack.Reader) { Get(r); Get(r); Get(r) },
			func(r *pack.Reader) {
				Get(r)
				r.Num(0)
				r.Text(0)
				r.Num(0)
				r.Num(0)
				r.Num(0)
			},
		} {
			r := pack.From(append(put(a), put(a)...))
			spoil(r)
			at, e := r.At(), r.Error()
			if got := Get(r); e == api.OK || !same(got, Txn{}) || r.At() != at || r.Error() != e {
				t.Error(got, r.At(), r.Error(), e)
			}
		}
	}
}

func TestMemory(t *testing.T) { // P9.1, P9.2, P9.3
	spans := []span.Span{sp(3, 9, 4), sp(1, 5, 2), sp(2, 1, 1), sp(9, 9, 9)}
	ops := []op.Op{ins(4, "ab"), del(spans[:3]...), move(6, spans[:3]...), ins(13, "c"), undo(4), {Kind: 9}}
	wantSpans, wantOps := slices.Clone(spans), slices.Clone(ops)
	for i := range wantOps {
		wantOps[i].Spans = slices.Clone(ops[i].Spans)
	}
	for size := range len(ops) + 1 {
		for from := range size + 1 {
			// Behind the list is spare room, which is somebody else's.
			a := of(ops[from:size]...)
			a.Fit()
			a.Atoms()
			a.Undoes()
			a.ID()
			a.Key(4)
			put(a)
			if !slices.EqualFunc(ops, wantOps, sameOp) || !slices.Equal(spans, wantSpans) {
				t.Fatalf("an argument was changed: %v", ops)
			}
		}
	}
	// What was written stays, whatever becomes of the operations; what is read shares nothing with what was read ahead.
	var w pack.Writer
	a := of(ops[:4]...)
	a.Put(&w)
	a.Put(&w)
	clear(ops)
	clear(spans)
	b := w.Bytes()
	r := pack.From(b)
	first := Get(r)
	second := Get(r)
	clear(b)
	clear(first.Ops[1].Spans)
	clear(first.Ops)
	_ = append(first.Ops, undo(9))
	if !same(second, of(wantOps[:4]...)) || r.Done() != api.OK {
		t.Error(second, r.Done())
	}
}

func pick[T any](src *rand.Rand, l ...T) T { return l[src.Intn(len(l))] }

// anyOps are operations: mostly such as may stand together, with numbers that follow one another.
func anyOps(src *rand.Rand) []op.Op {
	if src.Intn(5) == 0 {
		return []op.Op{pick(src, undo, redo)(pick[uint32](src, 0, 1, 2, 4, 5, 6, mostSeq-1, mostSeq, mostSeq+1))}
	}
	wrong := wrongOps()
	next := pick[uint32](src, 1, 7, 300, mostN-1024, mostN-20, mostN)
	var l []op.Op
	for range pick(src, 0, 1, 2, 3, 5, 15, 16, 16, 17) {
		o := del(sp(uint16(src.Intn(3)), uint32(1+src.Intn(5)), 1+src.Intn(300)))
		switch src.Intn(3) {
		case 0:
			o = ins(next, "abcdefgh\n"[src.Intn(9):])
		case 1:
			o = move(next, sp(1, uint32(1+src.Intn(300)), 1+src.Intn(3)), sp(2, 1, 1))
			o.Anchor = id(uint16(src.Intn(3)), uint32(1+src.Intn(3)))
		}
		switch src.Intn(60) {
		case 0:
			o = pick(src, wrong...).o
		case 1:
			o = pick(src, undo(1), redo(4))
		case 2:
			next += uint32(src.Intn(3)) - 1
		}
		next += uint32(o.Atoms())
		l = append(l, o)
	}
	return l
}

func anyTxn(src *rand.Rand) Txn {
	a := Txn{R: uint16(src.Intn(1 << 16)), Seq: uint32(1 + src.Intn(6)), Clock: uint64(1 + src.Int63n(mostClock)), User: src.Intn(8), Ops: anyOps(src)}
	switch src.Intn(12) {
	case 0:
		a.Seq = pick[uint32](src, 0, 1, mostSeq, mostSeq+1, math.MaxUint32)
	case 1:
		a.Clock = pick[uint64](src, 0, 1, mostClock, mostClock+1, math.MaxUint64)
	case 2:
		a.User = pick(src, math.MinInt, -1, 0, 7, 8, math.MaxInt)
	}
	return a
}

func TestTransactionsOfAnyKind(t *testing.T) { // P9.1, P9.2, P9.3
	src := rand.New(rand.NewSource(9))
	seen, turned := map[api.Errno]int{}, 0
	for range 20000 {
		a := anyTxn(src)
		holds(t, a)
		e := a.Fit()
		seen[e]++
		if _, ok := a.Undoes(); ok && e == api.OK {
			turned++
		}
	}
	for _, e := range []api.Errno{api.OK, api.ErrForm, api.ErrMany, api.ErrLong, api.ErrTwice} {
		if seen[e] < 50 {
			t.Errorf("error %d: only %d times", e, seen[e])
		}
	}
	if turned < 100 {
		t.Errorf("only %d that undo, or do again", turned)
	}
}

func TestBytesOfAnyKind(t *testing.T) { // P9.3
	src := rand.New(rand.NewSource(93))
	all := fitting()
	for range 60000 {
		var b []byte
		switch src.Intn(3) {
		case 0: // whatever, behind numbers that may be
			b = make([]byte, src.Intn(40))
			src.Read(b)
			b = append(written(1, 2, 3, 4, src.Intn(17)), b...)[src.Intn(4):]
		case 1: // small numbers, now and then a great one
			for range src.Intn(30) {
				b = append(b, number(src.Intn(8)<<(7*(src.Intn(10)/7)))...)
			}
		case 2: // what was put, with a byte that is another one
			b = put(all[src.Intn(len(all))])
			b[src.Intn(min(len(b), 30))] = byte(src.Intn(256))
		}
		getHolds(t, b)
	}
	for a := range 256 {
		for b := range 256 {
			x, y := byte(a), byte(b)
			for _, all := range [][]byte{{x, y}, {x, y, 1, 1, 1, 1, 4, 1}, {1, x, y, 1, 1, 1, 4, 1}, {1, 1, x, y, 1, 1, 4, 1}, {1, 1, 1, x, y, 1, 4, 1}, {1, 1, 1, 1, x, y, 4, 1}, {1, 1, 1, 1, 1, x, y, 1, 1, 1}, {1, 1, 1, 1, 2, 4, 1, x, y, 1, 1}} {
				getHolds(t, all)
			}
		}
	}
}

func TestEndsAtAnyArguments(t *testing.T) { // P1
	wild := op.Op{Kind: op.Move, Anchor: id(1, 0), N: math.MaxUint32, Spans: []span.Span{sp(1, math.MaxUint32, math.MaxInt), sp(0, 0, math.MinInt)}}
	lists := [][]op.Op{nil, {}, {{}}, {wild}, {{Kind: math.MinInt}}, {{Kind: math.MaxInt, Seq: math.MaxUint32}}, {undo(0)}, {undo(math.MaxUint32), redo(0)}, slices.Repeat([]op.Op{wild}, 1000), row(1000), make([]op.Op, 100000), {ins(math.MaxUint32, strings.Repeat("\xff", 1<<20))}}
	for _, ops := range lists {
		for _, n := range []uint64{0, 1, mostClock, 1 << 63, math.MaxUint64} {
			for _, user := range []int{math.MinInt, -1, 0, 7, 8, math.MaxInt} {
				a := Txn{R: uint16(n), Seq: uint32(n), Clock: n, User: user, Ops: ops}
				a.ID()
				a.Key(uint32(n))
				a.Fit()
				a.Undoes()
				a.Atoms()
				Get(pack.From(put(a)))
			}
		}
	}
	Txn{}.Put(&pack.Writer{})
	Get(pack.From(nil))
	Get(pack.From([]byte{}))
	Get(pack.From(bytes.Repeat([]byte{0xff}, 1000)))
}
