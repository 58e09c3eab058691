package wire

import (
	"bytes"
	"hash/crc32"
	"math"
	"math/bits"
	"math/rand"
	"slices"
	"strconv"
	"strings"
	"testing"

	"copyist/api"
	"copyist/ident"
	"copyist/op"
	"copyist/pack"
	"copyist/span"
	"copyist/txn"
	"copyist/vector"
)

// The limits as numbers, as the document says them, not as the program takes them.
const (
	mostN      = 268435456
	mostSeq    = 268435456
	mostClock  = 1099511627776
	mostWriter = 65535
	lastUser   = 7
	mostFrame  = 1048576
	allWriters = 65536
)

func id(r uint16, n uint32) ident.ID { return ident.ID{R: r, N: n} }

func sp(r uint16, n uint32, length int) span.Span { return span.Span{ID: id(r, n), Len: length} }

func ins(n uint32, s string) op.Op { return op.Op{Kind: op.Insert, N: n, Text: s} }

func del(l ...span.Span) op.Op { return op.Op{Kind: op.Delete, Spans: l} }

func move(n uint32, l ...span.Span) op.Op { return op.Op{Kind: op.Move, N: n, Spans: l} }

func undo(seq uint32) op.Op { return op.Op{Kind: op.Undo, Seq: seq} }

func redo(seq uint32) op.Op { return op.Op{Kind: op.Redo, Seq: seq} }

// vec is a list of entries: of each the replica, and how much of it.
func vec(numbers ...int) vector.Vector {
	var v vector.Vector
	for i := 0; i < len(numbers); i += 2 {
		v = append(v, vector.Entry{R: uint16(numbers[i]), Seq: uint32(numbers[i+1])})
	}
	return v
}

// gaps are of each the replica, from, and to.
func gaps(numbers ...int) []vector.Gap {
	var l []vector.Gap
	for i := 0; i < len(numbers); i += 3 {
		l = append(l, vector.Gap{R: uint16(numbers[i]), From: uint32(numbers[i+1]), To: uint32(numbers[i+2])})
	}
	return l
}

// of is an envelope of the transaction 3:5 with these operations, of which all else may be.
func of(deps vector.Vector, ops ...op.Op) Envelope {
	return Envelope{Deps: deps, Txn: txn.Txn{R: 3, Seq: 5, Clock: 9, User: 2, Ops: ops}}
}

// named is an envelope of the transaction of this name.
func named(r uint16, seq uint32, deps vector.Vector) Envelope {
	return Envelope{Deps: deps, Txn: txn.Txn{R: r, Seq: seq, Clock: 9, User: 2, Ops: []op.Op{ins(1, "a")}}}
}

func sameOp(a, b op.Op) bool {
	return a.Kind == b.Kind && a.Anchor == b.Anchor && a.N == b.N && a.Text == b.Text && slices.Equal(a.Spans, b.Spans) && a.Seq == b.Seq
}

func sameTxn(a, b txn.Txn) bool {
	return a.R == b.R && a.Seq == b.Seq && a.Clock == b.Clock && a.User == b.User && slices.EqualFunc(a.Ops, b.Ops, sameOp)
}

// same tells whether two envelopes have the same fields; lists that are nil and empty are one.
func same(a, b Envelope) bool { return slices.Equal(a.Deps, b.Deps) && sameTxn(a.Txn, b.Txn) }

// copied is the same envelope, that shares no memory with the first one.
func copied(e Envelope) Envelope {
	e.Deps, e.Txn.Ops = slices.Clone(e.Deps), slices.Clone(e.Txn.Ops)
	for i := range e.Txn.Ops {
		e.Txn.Ops[i].Spans = slices.Clone(e.Txn.Ops[i].Spans)
	}
	return e
}

// plainFit is the reference for Fit.
func plainFit(e Envelope) api.Errno {
	last := -1
	for _, d := range e.Deps {
		if int(d.R) <= last || d.Seq == 0 || d.Seq > mostSeq || d.R == e.Txn.R {
			return api.ErrForm
		}
		last = int(d.R)
	}
	return e.Txn.Fit()
}

// known are all transactions that a vector knows, one by one.
func known(v vector.Vector) map[txn.ID]bool {
	all := map[txn.ID]bool{}
	for _, e := range v {
		for seq := range e.Seq {
			all[txn.ID{R: e.R, Seq: seq + 1}] = true
		}
	}
	return all
}

// plainNeeds is the reference for Needs, of small numbers: what must be known, one by one, without what is, as gaps.
func plainNeeds(e Envelope, have vector.Vector) []vector.Gap {
	is, must := known(have), known(e.Deps)
	for seq := uint32(1); seq < e.Txn.Seq; seq++ {
		must[txn.ID{R: e.Txn.R, Seq: seq}] = true
	}
	var left []txn.ID
	for name := range must {
		if !is[name] {
			left = append(left, name)
		}
	}
	slices.SortFunc(left, func(a, b txn.ID) int { return (int(a.R)-int(b.R))<<30 + int(a.Seq) - int(b.Seq) })
	var l []vector.Gap
	for _, name := range left {
		last := len(l) - 1
		if last >= 0 && l[last].R == name.R && l[last].To+1 == name.Seq {
			l[last].To++
			continue
		}
		l = append(l, vector.Gap{R: name.R, From: name.Seq, To: name.Seq})
	}
	return l
}

// plainAtoms is the reference for Atom: the names of all atoms that are made, one by one.
func plainAtoms(e Envelope) []ident.ID {
	var all []ident.ID
	for _, o := range e.Txn.Ops {
		count := len(o.Text)
		for _, s := range o.Spans {
			if o.Kind == 3 {
				count += s.Len
			}
		}
		for i := range count {
			all = append(all, id(e.Txn.R, o.N+uint32(i)))
		}
	}
	return all
}

// number is the reference for a number's bytes.
func number(n int) []byte {
	if n < 128 {
		return []byte{byte(n)}
	}
	return append([]byte{byte(n%128) + 128}, number(n/128)...)
}

// written are numbers, one behind the other.
func written(numbers ...int) []byte {
	var out []byte
	for _, n := range numbers {
		out = append(out, number(n)...)
	}
	return out
}

func txnBytes(t txn.Txn) []byte {
	var w pack.Writer
	t.Put(&w)
	return w.Bytes()
}

// sum is the reference for layer 6's sum: Go's own by the same number goes from each byte's lowest bit on, so that all bits are mirrored.
func sum(b []byte) []byte {
	mirrored := make([]byte, len(b))
	for i, x := range b {
		mirrored[i] = bits.Reverse8(x)
	}
	return fourBytes(int(bits.Reverse32(crc32.Checksum(mirrored, crc32.MakeTable(crc32.Castagnoli)))))
}

func fourBytes(n int) []byte {
	return []byte{byte(n / 0x1000000), byte(n / 0x10000), byte(n / 0x100), byte(n)}
}

// seal are bytes with their sum behind.
func seal(b []byte) []byte { return append(slices.Clone(b), sum(b)...) }

// frame are bytes as an envelope has them, whatever they are: with the head that is right for them, and rightly sealed.
func frame(inside ...byte) []byte {
	return seal(slices.Concat([]byte("CP\x01"), fourBytes(len(inside)+11), inside))
}

// insideOf is what an envelope's bytes are between head and seal, whether it fits or not.
func insideOf(e Envelope) []byte {
	out := number(len(e.Deps))
	for _, d := range e.Deps {
		out = append(out, written(int(d.R), int(d.Seq))...)
	}
	return append(out, txnBytes(e.Txn)...)
}

// plainBytes are an envelope's bytes, whether it fits or not.
func plainBytes(e Envelope) []byte { return frame(insideOf(e)...) }

// plainNumber is the number at the head of bytes, how many bytes it has, and what is wrong of it, by layer 5's chapter.
func plainNumber(b []byte, limit int) (int, int, api.Errno) {
	size := 1 + slices.IndexFunc(b, func(x byte) bool { return x < 128 })
	if size > 9 || size == 0 && len(b) >= 9 {
		return 0, 0, api.ErrForm
	}
	if size == 0 {
		return 0, 0, api.ErrShort
	}
	n := 0
	for i := size - 1; i >= 0; i-- {
		n = n*128 + int(b[i])%128
	}
	if len(number(n)) != size {
		return 0, 0, api.ErrForm
	}
	if n > limit {
		return 0, 0, api.ErrRange
	}
	return n, size, api.OK
}

// plainInside reads what is between head and seal; the transaction is read by layer 9, by a reader of its own.
func plainInside(b []byte) (Envelope, api.Errno) {
	count, at, e := plainNumber(b, allWriters)
	var x Envelope
	for i := 0; i < 2*count && e == api.OK; i++ {
		var n, size int
		if i%2 == 0 {
			n, size, e = plainNumber(b[at:], mostWriter)
			x.Deps = append(x.Deps, vector.Entry{R: uint16(n)})
		} else {
			n, size, e = plainNumber(b[at:], mostSeq)
			x.Deps[i/2].Seq = uint32(n)
		}
		at += size
	}
	if e != api.OK {
		return Envelope{}, e
	}
	r := pack.From(b[at:])
	x.Txn = txn.Get(r)
	if r.Error() != api.OK {
		return Envelope{}, r.Error()
	}
	if at+r.At() < len(b) {
		return Envelope{}, api.ErrLong
	}
	return x, api.OK
}

// plainDecode is the reference for Decode.
func plainDecode(b []byte) (Envelope, api.Errno) {
	if len(b) < 11 {
		return Envelope{}, api.ErrShort
	}
	if len(b) > mostFrame {
		return Envelope{}, api.ErrLong
	}
	if string(b[:3]) != "CP\x01" || !bytes.Equal(b[3:7], fourBytes(len(b))) {
		return Envelope{}, api.ErrFrame
	}
	end := len(b) - 4
	if !bytes.Equal(sum(b[:end]), b[end:]) {
		return Envelope{}, api.ErrSum
	}
	x, e := plainInside(b[7:end])
	if e == api.OK {
		e = plainFit(x)
	}
	if e != api.OK {
		return Envelope{}, e
	}
	return x, api.OK
}

// empty tells whether an envelope has nothing set.
func empty(e Envelope) bool { return same(e, Envelope{}) }

// decodeHolds looks at what Decode tells of bytes.
func decodeHolds(t *testing.T, b []byte) api.Errno {
	t.Helper()
	want, e := plainDecode(b)
	got, wrong := Decode(b)
	if wrong != e || !same(got, want) {
		t.Fatalf("Decode of % x: %v, error %d, want %v, error %d", b, got, wrong, want, e)
	}
	return wrong
}

// tells looks at the error that Decode tells of bytes, and that nothing is told beside; the reference must be of that mind too.
func tells(t *testing.T, what string, b []byte, want api.Errno) {
	t.Helper()
	x, e := Decode(b)
	if e != want || want != api.OK && !empty(x) {
		t.Errorf("%s: %v, error %d, want %d", what, x, e, want)
	}
	if _, e := plainDecode(b); e != want {
		t.Errorf("%s: the reference tells %d, not %d", what, e, want)
	}
}

// holds looks at all that the calls tell of an envelope, but for how it stands to a vector.
func holds(t *testing.T, x Envelope) api.Errno {
	t.Helper()
	want := plainFit(x)
	if e := x.Fit(); e != want {
		t.Fatalf("Fit of %v: %d, want %d", x, e, want)
	}
	b, e := Encode(x)
	if e != want {
		t.Fatalf("Encode of %v: %d, want %d", x, e, want)
	}
	if e != api.OK {
		if len(b) != 0 {
			t.Fatalf("Encode of %v: % x beside %d", x, b, e)
		}
		return e
	}
	if !bytes.Equal(b, plainBytes(x)) {
		t.Fatalf("Encode of %v: % x, want % x", x, b, plainBytes(x))
	}
	if got, e := Decode(b); e != api.OK || !same(got, x) {
		t.Fatalf("Decode of what %v was written as: %v, %d", x, got, e)
	}
	atomsHold(t, x)
	return e
}

// atomsHold looks at all names of atoms, and at those that there aren't.
func atomsHold(t *testing.T, x Envelope) {
	t.Helper()
	want := plainAtoms(x)
	for i, name := range want {
		if got, ok := x.Atom(i); !ok || got != name {
			t.Fatalf("Atom %d of %v: %v, %t, want %v", i, x, got, ok, name)
		}
	}
	for _, i := range []int{math.MinInt, -len(want), -2, -1, len(want), len(want) + 1, 2*len(want) + 1, math.MaxInt} {
		if i < 0 || i >= len(want) {
			if got, ok := x.Atom(i); ok || got != (ident.ID{}) {
				t.Fatalf("Atom %d of %v: %v, %t", i, x, got, ok)
			}
		}
	}
}

// standsHold looks at how an envelope of small numbers stands to a vector.
func standsHold(t *testing.T, x Envelope, have vector.Vector) (ready, past bool) {
	t.Helper()
	needs := plainNeeds(x, have)
	past = known(have)[x.Txn.ID()]
	ready = len(needs) == 0 && !past
	if got := x.Past(have); got != past {
		t.Fatalf("Past of %v, %v: %t", x, have, got)
	}
	if got := x.Ready(have); got != ready {
		t.Fatalf("Ready of %v, %v: %t", x, have, got)
	}
	if got := x.Needs(have); !slices.Equal(got, needs) {
		t.Fatalf("Needs of %v, %v: %v, want %v", x, have, got, needs)
	}
	return ready, past
}

// fitting are envelopes that fit, at the ends of what may be.
func fitting() []Envelope {
	gone := del(sp(1, 1, 1))
	deps := vec(0, 1, 2, 3, 4, 300, mostWriter, mostSeq)
	return []Envelope{
		of(nil, ins(4, "ab"), ins(6, "c")), of(vector.Vector{}, ins(1, "a")), of(vec(2, 1), gone), of(vec(4, 1), move(1, sp(1, 1, 1))), of(deps, undo(4)), of(deps, redo(1)),
		of(vec(0, mostSeq), undo(1)), of(vec(mostWriter, 1), redo(4)), of(deps, ins(300, "hello\n"), gone, move(306, sp(1, 1, 3), sp(2, 1, 2)), gone, ins(311, "~")),
		{Deps: vec(1, 1), Txn: txn.Txn{Seq: 1, Clock: 1, Ops: []op.Op{gone}}},
		{Deps: vec(0, mostSeq, 1, 128, mostWriter-1, 127), Txn: txn.Txn{R: mostWriter, Seq: mostSeq, Clock: mostClock, User: lastUser, Ops: []op.Op{undo(mostSeq - 1)}}},
		{Deps: vec(2, 1, 4, 1), Txn: txn.Txn{R: 3, Seq: 1, Clock: 128, User: 3, Ops: slices.Repeat([]op.Op{gone}, 16)}},
		of(deps, ins(mostN-1, "a"), ins(mostN, "b")), of(nil, gone, gone, move(mostN-1023, sp(0, 1, 1024))),
		of(deps, move(1, sp(1, 1, 1024)), move(1025, sp(1, 1, 1024)), ins(2049, strings.Repeat("a", 64)), move(2113, sp(mostWriter, mostN, 1))),
		of(many(3, 200), ins(1, "a")), named(300, 300, many(300, 1000)),
	}
}

// many are as many entries as asked for, from replica 0 on, but for one replica.
func many(without, count int) vector.Vector {
	var v vector.Vector
	for r := 0; len(v) < count; r++ {
		if r != without {
			v = append(v, vector.Entry{R: uint16(r), Seq: uint32(1 + r*r%1000)})
		}
	}
	return v
}

func TestChapterExample(t *testing.T) { // P10.2, P10.3
	for _, x := range []Envelope{
		{Txn: txn.Txn{R: 1, Seq: 2, Clock: 3, User: 4, Ops: []op.Op{{Kind: op.Insert, Anchor: id(5, 6), N: 7, Text: "x"}}}},
		{Txn: txn.Txn{R: 127, Seq: 127, Clock: 127, User: 7, Ops: []op.Op{{Kind: op.Insert, Anchor: id(127, 127), N: 127, Text: "~"}}}},
		{Txn: txn.Txn{Seq: 1, Clock: 1, Ops: []op.Op{ins(1, " ")}}},
	} {
		b, e := Encode(x)
		if e != api.OK || len(b) != 23 {
			t.Errorf("%d bytes, %d", len(b), e)
		}
		if y, e := Decode(b); e != api.OK || !same(x, y) {
			t.Error(y, e)
		}
	}
	b, e := Encode(Envelope{Txn: txn.Txn{R: 1, Seq: 2, Clock: 3, User: 4, Ops: []op.Op{{Kind: op.Insert, Anchor: id(5, 6), N: 7, Text: "x"}}}})
	want := []byte{0x43, 0x50, 0x01, 0, 0, 0, 23, 0, 1, 2, 3, 4, 1, 1, 5, 6, 7, 1, 'x'}
	if e != api.OK || !bytes.Equal(b[:19], want) || !bytes.Equal(b[19:], sum(want)) {
		t.Errorf("% x", b)
	}
}

func TestThoseThatFit(t *testing.T) { // P10.1, P10.2, P10.3
	for i, x := range fitting() {
		if e := holds(t, x); e != api.OK {
			t.Errorf("%d: %d", i, e)
		}
	}
}

func TestFitOfDeps(t *testing.T) { // P10.1: of the replica 3's transaction
	for i, x := range []struct {
		deps vector.Vector
		want api.Errno
	}{
		{nil, api.OK}, {vector.Vector{}, api.OK}, {vec(3, 9, 1, 1)[:0], api.OK}, {vec(2, 1), api.OK}, {vec(4, 1), api.OK}, {vec(0, 1), api.OK}, {vec(mostWriter, mostSeq), api.OK}, {vec(1, 1, 2, 1, 4, 1), api.OK},
		// No vector: of one, that isn't known, or too far; of some, that don't rise, or come twice.
		{vec(2, 0), api.ErrForm}, {vec(2, mostSeq+1), api.ErrForm}, {vec(2, math.MaxUint32), api.ErrForm}, {vec(2, mostSeq), api.OK}, {vec(0, 0), api.ErrForm}, {vec(1, 1, 2, 0), api.ErrForm}, {vec(1, 0, 2, 1), api.ErrForm}, {vec(1, 1, 2, 1, 4, 0), api.ErrForm}, {vec(1, 1, 2, mostSeq+1, 4, 1), api.ErrForm},
		{vec(2, 1, 1, 1), api.ErrForm}, {vec(2, 1, 2, 1), api.ErrForm}, {vec(2, 1, 2, 2), api.ErrForm}, {vec(2, 2, 2, 1), api.ErrForm}, {vec(0, 1, 0, 1), api.ErrForm}, {vec(1, 1, 4, 1, 2, 1), api.ErrForm}, {vec(4, 1, 1, 1, 2, 1), api.ErrForm}, {vec(1, 1, 2, 1, 2, 1, 4, 1), api.ErrForm}, {vec(mostWriter, 1, 0, 1), api.ErrForm},
		// The transaction's own replica: of less than is known ahead, of just that, of itself, of more; alone, first, between, last.
		{vec(3, 1), api.ErrForm}, {vec(3, 4), api.ErrForm}, {vec(3, 5), api.ErrForm}, {vec(3, 6), api.ErrForm}, {vec(3, mostSeq), api.ErrForm}, {vec(3, 4, 4, 1), api.ErrForm}, {vec(2, 1, 3, 4), api.ErrForm}, {vec(2, 1, 3, 4, 4, 1), api.ErrForm}, {vec(0, 1, 1, 1, 2, 1, 3, 4, 9, 9, 10, 9), api.ErrForm},
		// It has its replica, and is no vector.
		{vec(3, 0), api.ErrForm}, {vec(3, 4, 3, 4), api.ErrForm}, {vec(4, 1, 3, 4), api.ErrForm},
	} {
		a := of(x.deps, ins(1, "a"))
		if e := a.Fit(); e != x.want {
			t.Errorf("%d: %d, want %d", i, e, x.want)
		}
		holds(t, a)
	}
	for _, r := range []uint16{0, 1, 300, mostWriter} {
		for _, d := range []uint16{0, 1, 2, 299, 300, 301, mostWriter - 1, mostWriter} {
			want := api.OK
			if r == d {
				want = api.ErrForm
			}
			if e := named(r, 5, vec(int(d), 4)).Fit(); e != want {
				t.Errorf("of %d with %d: %d, want %d", r, d, e, want)
			}
		}
	}
}

// wrongTxns are transactions of the replica 3 of which layer 9's Fit tells an error.
func wrongTxns() map[string]Envelope {
	with := func(change func(*txn.Txn), ops ...op.Op) Envelope {
		x := of(nil, ops...)
		change(&x.Txn)
		return x
	}
	var spans []span.Span
	for i := range 1025 {
		spans = append(spans, sp(uint16(i), 1, 1))
	}
	a := ins(1, "a")
	return map[string]Envelope{
		"no Seq":      with(func(x *txn.Txn) { x.Seq = 0 }, a),
		"Seq past":    with(func(x *txn.Txn) { x.Seq = mostSeq + 1 }, a),
		"no Clock":    with(func(x *txn.Txn) { x.Clock = 0 }, a),
		"Clock past":  with(func(x *txn.Txn) { x.Clock = mostClock + 1 }, a),
		"User below":  with(func(x *txn.Txn) { x.User = -1 }, a),
		"User past":   with(func(x *txn.Txn) { x.User = lastUser + 1 }, a),
		"nothing":     of(nil),
		"17":          of(nil, slices.Repeat([]op.Op{del(sp(1, 1, 1))}, 17)...),
		"no kind":     of(nil, op.Op{}),
		"no text":     of(nil, ins(1, "")),
		"tab":         of(nil, a, ins(2, "\t")),
		"long text":   of(nil, ins(1, strings.Repeat("a", 65))),
		"many spans":  of(nil, del(spans...)),
		"many names":  of(nil, del(sp(1, 1, 1024), sp(2, 1, 1))),
		"twice":       of(nil, a, move(2, sp(1, 1, 2), sp(1, 2, 1))),
		"number":      of(nil, ins(4, "ab"), ins(7, "c")),
		"undo beside": of(nil, undo(1), a),
		"undo itself": of(nil, undo(5)),
		"redo later":  of(nil, redo(6)),
	}
}

func TestFitOfTransactionsThatDoNot(t *testing.T) { // P10.1, P10.2
	seen := map[api.Errno]int{}
	for what, x := range wrongTxns() {
		want := x.Txn.Fit()
		seen[want]++
		for _, deps := range []vector.Vector{nil, vec(2, 1), vec(2, 1, 4, mostSeq)} {
			x.Deps = deps
			if b, e := Encode(x); x.Fit() != want || want == api.OK || e != want || len(b) != 0 {
				t.Errorf("%s: %d, %d, want %d", what, x.Fit(), e, want)
			}
			holds(t, x)
		}
		// What is wrong of Deps is told ahead of it.
		for _, deps := range []vector.Vector{vec(3, 1), vec(2, 0), vec(2, 1, 1, 1), vec(2, 1, 3, 4)} {
			x.Deps = deps
			if b, e := Encode(x); x.Fit() != api.ErrForm || e != api.ErrForm || len(b) != 0 {
				t.Errorf("%s, with %v: %d, %d", what, deps, x.Fit(), e)
			}
		}
	}
	for _, e := range []api.Errno{api.ErrForm, api.ErrMany, api.ErrLong, api.ErrTwice} {
		if seen[e] == 0 {
			t.Errorf("layer 9 told %d of none", e)
		}
	}
}

func TestReadyPastAndNeeds(t *testing.T) { // P10.1
	x := of(vec(1, 2, 4, 3, 9, 1), ins(1, "a")) // 3:5
	for i, y := range []struct {
		have        vector.Vector
		ready, past bool
		needs       []vector.Gap
	}{
		{nil, false, false, gaps(1, 1, 2, 3, 1, 4, 4, 1, 3, 9, 1, 1)}, {vector.Vector{}, false, false, gaps(1, 1, 2, 3, 1, 4, 4, 1, 3, 9, 1, 1)},
		// All is known: just that, and more, of these and of others.
		{vec(1, 2, 3, 4, 4, 3, 9, 1), true, false, nil}, {vec(0, 7, 1, 9, 2, 7, 3, 4, 4, 9, 9, 9, mostWriter, 7), true, false, nil},
		// Just one is missing: of the replica itself, and of others.
		{vec(1, 2, 3, 3, 4, 3, 9, 1), false, false, gaps(3, 4, 4)}, {vec(1, 1, 3, 4, 4, 3, 9, 1), false, false, gaps(1, 2, 2)}, {vec(1, 2, 3, 4, 4, 2, 9, 1), false, false, gaps(4, 3, 3)}, {vec(1, 2, 3, 4, 4, 3), false, false, gaps(9, 1, 1)},
		// One replica is missing, or all but one.
		{vec(1, 2, 4, 3, 9, 1), false, false, gaps(3, 1, 4)}, {vec(3, 4, 4, 3, 9, 1), false, false, gaps(1, 1, 2)}, {vec(3, 4), false, false, gaps(1, 1, 2, 4, 1, 3, 9, 1, 1)}, {vec(2, 9, 5, 9), false, false, gaps(1, 1, 2, 3, 1, 4, 4, 1, 3, 9, 1, 1)},
		// It is known itself, and more behind it.
		{vec(1, 2, 3, 5, 4, 3, 9, 1), false, true, nil}, {vec(1, 2, 3, 6, 4, 3, 9, 1), false, true, nil}, {vec(1, 2, 3, mostSeq, 4, 3, 9, 1), false, true, nil},
		// It is known, though not all is that must be: such a replica there can't be, but the words are plain.
		{vec(3, 5), false, true, gaps(1, 1, 2, 4, 1, 3, 9, 1, 1)}, {vec(1, 2, 3, 5, 4, 2, 9, 1), false, true, gaps(4, 3, 3)},
	} {
		if x.Ready(y.have) != y.ready || x.Past(y.have) != y.past || !slices.Equal(x.Needs(y.have), y.needs) {
			t.Errorf("%d: %t, %t, %v", i, x.Ready(y.have), x.Past(y.have), x.Needs(y.have))
		}
		if len(y.have) == 0 || y.have.Get(3) < 100 {
			standsHold(t, x, y.have)
		}
	}
}

func TestReadyOfFirstAndLast(t *testing.T) { // P10.1
	for i, y := range []struct {
		x           Envelope
		have        vector.Vector
		ready, past bool
		needs       []vector.Gap
	}{
		// The first one of its replica needs none of it.
		{named(3, 1, nil), nil, true, false, nil}, {named(3, 1, nil), vec(2, 9), true, false, nil}, {named(3, 1, nil), vec(3, 1), false, true, nil}, {named(3, 1, nil), vec(3, 9), false, true, nil},
		{named(0, 1, nil), nil, true, false, nil}, {named(mostWriter, 1, vec(0, 1)), nil, false, false, gaps(0, 1, 1)}, {named(mostWriter, 1, vec(0, 1)), vec(0, 1), true, false, nil}, {named(0, 1, vec(mostWriter, 2)), vec(mostWriter, 1), false, false, gaps(mostWriter, 2, 2)},
		{named(3, 2, nil), nil, false, false, gaps(3, 1, 1)}, {named(3, 2, nil), vec(3, 1), true, false, nil}, {named(3, 2, nil), vec(3, 2), false, true, nil},
		// Great numbers.
		{named(3, mostSeq, nil), nil, false, false, gaps(3, 1, mostSeq-1)}, {named(3, mostSeq, nil), vec(3, mostSeq-2), false, false, gaps(3, mostSeq-1, mostSeq-1)}, {named(3, mostSeq, nil), vec(3, mostSeq-1), true, false, nil}, {named(3, mostSeq, nil), vec(3, mostSeq), false, true, nil},
		{named(3, mostSeq, vec(4, mostSeq)), vec(3, mostSeq-1, 4, mostSeq-1), false, false, gaps(4, mostSeq, mostSeq)}, {named(3, mostSeq, vec(4, mostSeq)), vec(3, mostSeq-1, 4, mostSeq), true, false, nil}, {named(3, 1, vec(4, mostSeq)), nil, false, false, gaps(4, 1, mostSeq)},
	} {
		if y.x.Fit() != api.OK || y.x.Ready(y.have) != y.ready || y.x.Past(y.have) != y.past || !slices.Equal(y.x.Needs(y.have), y.needs) {
			t.Errorf("%d: %t, %t, %v", i, y.x.Ready(y.have), y.x.Past(y.have), y.x.Needs(y.have))
		}
	}
}

func TestHowAllSmallOnesStand(t *testing.T) { // P10.1: of three replicas, all that may be known, and needed, up to two of each, and one more of its own
	counts := map[[2]bool]int{}
	for seq := uint32(1); seq <= 3; seq++ {
		for r := range uint16(3) {
			for d := range 9 {
				deps := vector.Vector{}.With((r+1)%3, uint32(d%3)).With((r+2)%3, uint32(d/3))
				for h := range 64 {
					have := vector.Vector{}.With(0, uint32(h%4)).With(1, uint32(h/4%4)).With(2, uint32(h/16))
					ready, past := standsHold(t, named(r, seq, deps), have)
					counts[[2]bool{ready, past}]++
				}
			}
		}
	}
	if len(counts) != 3 || counts[[2]bool{true, true}] != 0 {
		t.Error(counts)
	}
}

func TestAtom(t *testing.T) { // P10.1
	gone := del(sp(1, 7, 3), sp(2, 1, 1))
	three := []span.Span{sp(1, 7, 2), sp(9, 9, 1)}
	for i, x := range []struct {
		ops  []op.Op
		want []uint32 // the numbers
	}{
		{[]op.Op{ins(5, "a")}, []uint32{5}}, {[]op.Op{ins(5, "abc")}, []uint32{5, 6, 7}}, {[]op.Op{ins(5, "ab"), ins(7, "c")}, []uint32{5, 6, 7}}, {[]op.Op{move(4, three...)}, []uint32{4, 5, 6}},
		// Others, that make none, ahead, between and behind.
		{[]op.Op{ins(5, "ab"), gone, ins(7, "c")}, []uint32{5, 6, 7}}, {[]op.Op{gone, ins(5, "ab")}, []uint32{5, 6}}, {[]op.Op{gone, gone, ins(5, "ab"), gone, gone, move(7, three...), gone, ins(10, "c"), gone}, []uint32{5, 6, 7, 8, 9, 10}}, {[]op.Op{ins(1, "a"), gone}, []uint32{1}},
		// None is made.
		{[]op.Op{gone}, nil}, {[]op.Op{gone, gone, gone}, nil}, {[]op.Op{undo(4)}, nil}, {[]op.Op{redo(1)}, nil},
		// At the end of the numbers.
		{[]op.Op{ins(mostN, "a")}, []uint32{mostN}}, {[]op.Op{ins(mostN-2, "a"), gone, ins(mostN-1, "bc")}, []uint32{mostN - 2, mostN - 1, mostN}},
	} {
		for _, r := range []uint16{0, 3, mostWriter} {
			a := of(vec(2, 1), x.ops...)
			a.Txn.R = r
			for j, n := range x.want {
				if got, ok := a.Atom(j); !ok || got != id(r, n) {
					t.Errorf("%d, %d of %d: %v, %t, want %d", i, j, r, got, ok, n)
				}
			}
			for _, j := range []int{math.MinInt, -3, -1, len(x.want), len(x.want) + 1, 1 << 32, math.MaxInt} {
				if got, ok := a.Atom(j); ok || got != (ident.ID{}) {
					t.Errorf("%d, %d of %d: %v, %t", i, j, r, got, ok)
				}
			}
			holds(t, a)
		}
	}
	var most []op.Op
	for i := range 16 {
		most = append(most, move(uint32(1+1024*i), sp(1, 1, 1024)))
	}
	a := of(nil, most...)
	first, _ := a.Atom(0)
	last, ok := a.Atom(16383)
	if _, more := a.Atom(16384); first != id(3, 1) || last != id(3, 16384) || !ok || more {
		t.Error(first, last, ok, more)
	}
}

func TestEncode(t *testing.T) { // P10.2
	for i, x := range []struct {
		a      Envelope
		inside []byte
	}{
		{of(vec(2, 3), ins(5, "ab"), del(sp(2, 6, 1)), ins(7, "c")), []byte{1, 2, 3, 3, 5, 9, 2, 3, 1, 0, 0, 5, 2, 'a', 'b', 2, 1, 2, 6, 1, 1, 0, 0, 7, 1, 'c'}},
		{of(nil, undo(4)), []byte{0, 3, 5, 9, 2, 1, 4, 4}}, {of(vec(0, 1, 1, 2, 9, 127), redo(4)), []byte{3, 0, 1, 1, 2, 9, 127, 3, 5, 9, 2, 1, 5, 4}},
		{of(vec(127, 128, 128, 127, 300, 300, mostWriter, mostSeq), undo(1)), []byte{4, 127, 0x80, 1, 0x80, 1, 127, 0xac, 2, 0xac, 2, 0xff, 0xff, 3, 0x80, 0x80, 0x80, 0x80, 1, 3, 5, 9, 2, 1, 4, 1}},
	} {
		b, e := Encode(x.a)
		want := slices.Concat([]byte{0x43, 0x50, 1, 0, 0, 0, byte(len(x.inside) + 11)}, x.inside)
		if e != api.OK || !bytes.Equal(b, seal(want)) {
			t.Errorf("%d: % x, %d, want % x and its sum", i, b, e, want)
		}
	}
	// Lengths of more than one byte, the highest first; as many entries as one byte tells, and more.
	for _, count := range []int{100, 126, 127, 128, 129, 300, 10000, 16383, 16384} {
		x := of(many(3, count), ins(1, "a"))
		b, e := Encode(x)
		if size := len(b); e != api.OK || !bytes.Equal(b[3:7], fourBytes(size)) || !bytes.HasPrefix(b[7:], number(count)) || size != len(insideOf(x))+11 {
			t.Errorf("%d: %d bytes, % x, %d", count, size, b[:10], e)
		}
		holds(t, x)
	}
	if b, e := Encode(Envelope{}); e != api.ErrForm || len(b) != 0 {
		t.Error(b, e)
	}
}

// longest is an envelope that has as many bytes as one that fits may have: all other replicas are needed, each as far as may be, and of 16 operations, which move and delete as many spans as may be, each name has as many bytes as may be.
func longest() Envelope {
	var deps vector.Vector
	for r := range mostWriter {
		deps = append(deps, vector.Entry{R: uint16(r), Seq: mostSeq})
	}
	var spans []span.Span
	for r := mostWriter - 1023; r <= mostWriter; r++ {
		spans = append(spans, sp(uint16(r), mostN, 1))
	}
	var ops []op.Op
	for i := range 16 {
		o := move(uint32(mostN/2+1024*i), spans...)
		o.Anchor = id(mostWriter, mostN)
		ops = append(ops, o)
	}
	return Envelope{Deps: deps, Txn: txn.Txn{R: mostWriter, Seq: mostSeq, Clock: mostClock, User: lastUser, Ops: ops}}
}

func TestLongest(t *testing.T) { // P10.2, P10.3
	x := longest()
	if e := x.Fit(); e != api.OK {
		t.Fatal(e)
	}
	b, e := Encode(x)
	if e != api.OK || len(b) != 655494 || !bytes.Equal(b, plainBytes(x)) {
		t.Errorf("%d bytes, %d", len(b), e)
	}
	if y, e := Decode(b); e != api.OK || !same(x, y) {
		t.Errorf("%d", e)
	}
	// One entry more is its own replica's.
	x.Deps = append(x.Deps, vector.Entry{R: mostWriter, Seq: mostSeq})
	if b, e := Encode(x); e != api.ErrForm || len(b) != 0 {
		t.Error(e)
	}
}

// No envelope that fits has more than MaxFrame bytes, so what is told of more is looked at where bytes are framed.
func TestFramedAtMaxFrame(t *testing.T) { // P10.2
	for _, x := range []struct {
		size int
		want api.Errno
	}{{0, api.OK}, {1, api.OK}, {mostFrame - 12, api.OK}, {mostFrame - 11, api.OK}, {mostFrame - 10, api.ErrLong}, {mostFrame - 7, api.ErrLong}, {mostFrame - 4, api.ErrLong}, {mostFrame, api.ErrLong}, {mostFrame + 1, api.ErrLong}, {4 * mostFrame, api.ErrLong}} {
		inside := bytes.Repeat([]byte{7}, x.size)
		b, e := framed(inside)
		if e != x.want || e == api.OK && !bytes.Equal(b, frame(inside...)) || e != api.OK && len(b) != 0 {
			t.Errorf("%d: %d bytes, %d, want %d", x.size, len(b), e, x.want)
		}
	}
}

func TestDecodeOfFewAndMany(t *testing.T) { // P10.3
	right := plainBytes(of(vec(2, 3), ins(5, "ab")))
	for size := range 11 {
		for _, b := range [][]byte{right[:size], make([]byte, size), bytes.Repeat([]byte{0xff}, size), right[len(right)-size:]} {
			tells(t, "few", b, api.ErrShort)
		}
	}
	tells(t, "nil", nil, api.ErrShort)
	// Ten bytes, of which all else is as it should be; they have no room for an envelope's sum.
	tells(t, "ten", seal([]byte{'C', 'P', 1, 0, 0, 0})[:10], api.ErrShort)
	tells(t, "eleven", right[:11], api.ErrFrame)
	tells(t, "eleven of 0", make([]byte, 11), api.ErrFrame)
	tells(t, "eleven, whose sum is wrong", []byte{'C', 'P', 1, 0, 0, 0, 11, 0, 0, 0, 0}, api.ErrSum)
	tells(t, "eleven, sealed", frame(), api.ErrShort)
	for _, x := range []struct {
		size          int
		wrong, spoilt api.Errno
	}{{mostFrame - 1, api.ErrFrame, api.ErrSum}, {mostFrame, api.ErrFrame, api.ErrSum}, {mostFrame + 1, api.ErrLong, api.ErrLong}, {mostFrame + 11, api.ErrLong, api.ErrLong}, {2 * mostFrame, api.ErrLong, api.ErrLong}} {
		tells(t, "noughts", make([]byte, x.size), x.wrong)
		b := append(slices.Concat([]byte("CP\x01"), fourBytes(x.size)), make([]byte, x.size-7)...)
		tells(t, "with their head", b, x.spoilt)
		b[1] = 'Q'
		tells(t, "with a wrong head", b, x.wrong)
	}
	// Rightly sealed, as many as may be, and one more: an envelope, and others left behind it.
	for _, size := range []int{mostFrame, mostFrame + 1} {
		inside := insideOf(of(nil, undo(4)))
		tells(t, "left behind", frame(append(inside, make([]byte, size-11-len(inside))...)...), api.ErrLong)
	}
	// As many as may be, all of them read: nothing but an error of what was read can be told.
	inside := append(number(allWriters), bytes.Repeat([]byte{0x80, 0x80, 0x80, 0x80, 0x80, 0x80, 0x80, 0x80}, mostFrame/8)...)
	tells(t, "as many as may be", frame(inside[:mostFrame-11]...), api.ErrForm)
}

func TestDecodeOfWrongHeads(t *testing.T) { // P10.3
	for _, x := range []Envelope{of(nil, undo(4)), of(vec(2, 3), ins(5, "ab"), del(sp(2, 6, 1)), ins(7, "c")), of(many(3, 200), ins(1, "a"))} {
		right := plainBytes(x)
		tells(t, "right", right, api.OK)
		for place := range 7 {
			for other := range 256 {
				b := slices.Clone(right[:len(right)-4])
				if b[place] == byte(other) {
					continue
				}
				b[place] = byte(other)
				tells(t, "wrong head, rightly sealed", seal(b), api.ErrFrame)
				tells(t, "wrong head, wrong sum", append(b, right[len(right)-4:]...), api.ErrFrame)
			}
		}
		// Lengths that another one could have written: without the seal, without head and seal, the lowest first.
		size := len(right)
		for i, length := range [][]byte{fourBytes(size - 4), fourBytes(size - 7), fourBytes(size - 11), fourBytes(size - 1), fourBytes(size + 1), fourBytes(size + 1<<24), fourBytes(size + 1<<16), {byte(size), byte(size >> 8), 0, 0}, {0, 0, 0, 0}, {255, 255, 255, 255}} {
			b := slices.Concat(right[:3], length, right[7:size-4])
			tells(t, "length "+strconv.Itoa(i), seal(b), api.ErrFrame)
		}
	}
	for _, first := range []string{"\x00\x00\x00", "PC\x01", "cp\x01", "CP\x00", "CP\x02", "CP1", "CPC", "\x01PC", "\xff\xff\xff"} {
		b := plainBytes(of(nil, undo(4)))
		tells(t, first, seal(slices.Concat([]byte(first), b[3:len(b)-4])), api.ErrFrame)
	}
}

func TestDecodeOfWrongSums(t *testing.T) { // P10.3
	for _, x := range fitting()[:12] {
		right := plainBytes(x)
		end := len(right) - 4
		for place := end; place < len(right); place++ {
			for other := range 256 {
				b := slices.Clone(right)
				b[place] = byte(other)
				want := api.ErrSum
				if b[place] == right[place] {
					want = api.OK
				}
				tells(t, "sum", b, want)
			}
		}
		for place := 7; place < min(end, 60); place++ {
			b := slices.Clone(right)
			b[place]++
			tells(t, "inside", b, api.ErrSum)
		}
		s := sum(right[:end])
		for i, other := range [][]byte{{s[3], s[2], s[1], s[0]}, {^s[0], ^s[1], ^s[2], ^s[3]}, sum(right[7:end]), sum(right[3:end]), sum(right), fourBytes(int(crc32.ChecksumIEEE(right[:end]))), {0, 0, 0, 0}} {
			tells(t, "other sum "+strconv.Itoa(i), slices.Concat(right[:end], other), api.ErrSum)
		}
	}
}

func TestDecodeAtTheLimits(t *testing.T) { // P10.3: each number at its limit and above it
	one := written(3, 5, 9, 2, 1, 4, 4) // a transaction of the replica 3
	twice := slices.Concat(number(allWriters), bytes.Repeat([]byte{1, 1}, allWriters))
	for i, x := range []struct {
		inside []byte
		want   api.Errno
	}{
		// How many entries: none, as many as there are replicas, and one more.
		{slices.Concat(number(0), one), api.OK}, {slices.Concat(twice, one), api.ErrForm}, {slices.Concat(number(allWriters+1), bytes.Repeat([]byte{1, 1}, allWriters+1), one), api.ErrRange}, {slices.Concat(number(1<<32), one), api.ErrRange}, {slices.Concat(number(math.MaxInt), one), api.ErrRange},
		{slices.Concat(number(allWriters), one), api.ErrShort}, {slices.Concat(twice, []byte{}), api.ErrShort}, {slices.Concat(number(allWriters-1), bytes.Repeat([]byte{1, 1}, allWriters-1), one, []byte{0}), api.ErrLong}, {slices.Concat(twice, one, []byte{0}), api.ErrLong},
		// R and Seq of the first entry, and of a later one.
		{slices.Concat(written(1, mostWriter, 1), one), api.OK}, {slices.Concat(written(1, mostWriter+1, 1), one), api.ErrRange}, {slices.Concat(written(1, 1<<32, 1), one), api.ErrRange}, {slices.Concat(written(1, 1<<16+2, 1), one), api.ErrRange}, {slices.Concat(written(1, math.MaxInt, 1), one), api.ErrRange},
		{slices.Concat(written(1, 2, mostSeq), one), api.OK}, {slices.Concat(written(1, 2, mostSeq+1), one), api.ErrRange}, {slices.Concat(written(1, 2, 1<<32+1), one), api.ErrRange}, {slices.Concat(written(1, 2, math.MaxInt), one), api.ErrRange},
		{slices.Concat(written(2, 0, 1, mostWriter, mostSeq), one), api.OK}, {slices.Concat(written(2, 0, 1, mostWriter+1, 1), one), api.ErrRange}, {slices.Concat(written(2, 0, 1, 4, mostSeq+1), one), api.ErrRange},
		// The transaction's own.
		{written(0, mostWriter, 5, 9, 2, 1, 4, 4), api.OK}, {written(0, mostWriter+1, 5, 9, 2, 1, 4, 4), api.ErrRange}, {written(0, 3, mostSeq, 9, 2, 1, 4, mostSeq-1), api.OK}, {written(0, 3, mostSeq+1, 9, 2, 1, 4, 4), api.ErrRange}, {written(0, 3, 5, mostClock, 2, 1, 4, 4), api.OK}, {written(0, 3, 5, mostClock+1, 2, 1, 4, 4), api.ErrRange},
		{written(0, 3, 5, 9, lastUser, 1, 4, 4), api.OK}, {written(0, 3, 5, 9, lastUser+1, 1, 4, 4), api.ErrRange}, {slices.Concat(written(0, 3, 5, 9, 2, 16), bytes.Repeat([]byte{2, 1, 1, 1, 1}, 16)), api.OK}, {slices.Concat(written(0, 3, 5, 9, 2, 17), bytes.Repeat([]byte{2, 1, 1, 1, 1}, 17)), api.ErrRange},
		{written(0, 3, 5, 9, 2, 1, 6, 4), api.ErrRange}, {written(0, 3, 5, 9, 2, 1, 1, 0, mostN, mostN, 1, 'a'), api.OK}, {written(0, 3, 5, 9, 2, 1, 1, 0, mostN+1, 1, 1, 'a'), api.ErrRange}, {written(0, 3, 5, 9, 2, 1, 1, 0, 0, mostN+1, 1, 'a'), api.ErrRange},
		// Numbers that aren't in as few bytes as they have, or never end.
		{slices.Concat([]byte{0x80, 0}, one), api.ErrForm}, {slices.Concat([]byte{0x81, 0, 2, 1}, one), api.ErrForm}, {slices.Concat([]byte{1, 0x82, 0, 1}, one), api.ErrForm}, {slices.Concat([]byte{1, 2, 0x81, 0}, one), api.ErrForm}, {[]byte{0, 0x83, 0, 5, 9, 2, 1, 4, 4}, api.ErrForm},
		{slices.Concat(bytes.Repeat([]byte{0xff}, 9), one), api.ErrForm}, {slices.Concat([]byte{1, 2}, bytes.Repeat([]byte{0x80}, 9), one), api.ErrForm},
	} {
		tells(t, "limit "+strconv.Itoa(i), frame(x.inside...), x.want)
	}
}

func TestDecodeOfBytesLeftBehind(t *testing.T) { // P10.3
	for _, x := range fitting() {
		inside := insideOf(x)
		for _, more := range [][]byte{{0}, {1}, {255}, {0, 0, 0, 0}, inside, plainBytes(x)} {
			tells(t, "left behind", frame(slices.Concat(inside, more)...), api.ErrLong)
		}
	}
	// An envelope's bytes that end early, rightly sealed.
	for _, x := range fitting()[:12] {
		inside := insideOf(x)
		for i := range inside {
			tells(t, "ends early", frame(inside[:i]...), api.ErrShort)
		}
	}
}

func TestDecodeOfThoseThatDoNotFit(t *testing.T) { // P10.3: rightly sealed
	for _, deps := range []vector.Vector{vec(3, 4), vec(3, 5), vec(2, 1, 3, 4), vec(3, 1, 4, 1), vec(2, 0), vec(2, 1, 4, 0), vec(2, 1, 2, 1), vec(4, 1, 2, 1), vec(0, 0), vec(2, 1, 2, 2, 4, 1)} {
		x := of(deps, ins(1, "a"))
		tells(t, deps.Show(), plainBytes(x), api.ErrForm)
		if b, e := Encode(x); e != api.ErrForm || len(b) != 0 {
			t.Error(b, e)
		}
	}
	// Those of layer 9, as far as they can be written: Get tells of numbers past their limits that they are out of range.
	for what, x := range wrongTxns() {
		want := x.Txn.Fit()
		switch what {
		case "Seq past", "Clock past", "User below", "User past", "17", "long text", "many spans":
			want = api.ErrRange
		}
		tells(t, what, plainBytes(x), want)
		// Deps that may not be are told ahead of what is wrong of the transaction, but behind what can't be read.
		x.Deps = vec(2, 1, 3, 4)
		if want != api.ErrRange {
			want = api.ErrForm
		}
		tells(t, what+", with Deps that may not be", plainBytes(x), want)
	}
	// A kind of 0 is read as Undo is.
	tells(t, "no kind", frame(written(0, 3, 5, 9, 2, 1, 0, 4)...), api.ErrForm)
}

func TestDecodeTellsTheFirst(t *testing.T) { // P10.3: where several things are wrong
	x := of(vec(2, 1, 3, 4), ins(1, ""))
	wrong := insideOf(x)                                    // doesn't fit
	left := slices.Concat(wrong, []byte{0})                 // and bytes are left
	ranged := slices.Concat([]byte{1}, number(1<<16), left) // and a number is out of range
	for i, inside := range [][]byte{wrong, left, ranged} {
		want := []api.Errno{api.ErrForm, api.ErrLong, api.ErrRange}[i]
		right := frame(inside...)
		tells(t, "sealed", right, want)
		spoilt := slices.Clone(right)
		spoilt[len(spoilt)-1]++
		tells(t, "spoilt", spoilt, api.ErrSum)
		spoilt[2]++
		tells(t, "spoilt, of another kind", spoilt, api.ErrFrame)
		spoilt[2]--
		spoilt[6]++
		tells(t, "spoilt, of another length", spoilt, api.ErrFrame)
		tells(t, "cut", spoilt[:10], api.ErrShort)
		tells(t, "long", append(spoilt, make([]byte, mostFrame)...), api.ErrLong)
	}
	// The first number that is wrong, whatever follows.
	tells(t, "range, then form", frame(slices.Concat(number(allWriters+1), []byte{0x80, 0})...), api.ErrRange)
	tells(t, "form, then range", frame(slices.Concat([]byte{0x80, 0}, number(1<<20))...), api.ErrForm)
	tells(t, "entry, then transaction", frame(slices.Concat(written(1, 2, mostSeq+1), []byte{0x80, 0})...), api.ErrRange)
	tells(t, "transaction, then the end", frame(0, 3, 0x85, 0), api.ErrForm)
}

// turned are bytes with a run of bits turned from a place on, by the lowest length bits of a pattern, the highest of them first.
func turned(b []byte, at, length int, pattern uint32) []byte {
	out := slices.Clone(b)
	for i := range length {
		if pattern>>(length-1-i)&1 == 1 {
			out[(at+i)/8] ^= 0x80 >> ((at + i) % 8)
		}
	}
	return out
}

// patterns are those of a run with its first and its last bit turned: all of them, if it is short, else some of those between.
func patterns(src *rand.Rand, length int) []uint32 {
	if length == 1 {
		return []uint32{1}
	}
	ends := uint32(1)<<(length-1) | 1
	var out []uint32
	if length <= 8 {
		for between := range uint32(1) << (length - 2) {
			out = append(out, ends|between<<1)
		}
		return out
	}
	inner := uint32(1)<<(length-1) - 1
	for _, between := range []uint32{0, 0xffffffff, 0x55555555, 0xaaaaaaaa, 0x1edc6f41, 0x1edc6f41 << 1, 0xf0f0f0f0} {
		out = append(out, ends|between&inner)
	}
	for range 40 {
		out = append(out, ends|src.Uint32()&inner)
	}
	return out
}

// refused tells whether Decode tells an error, and nothing beside.
func refused(b []byte) bool {
	x, e := Decode(b)
	return e != api.OK && empty(x)
}

func TestTurnedBitsAreRefused(t *testing.T) { // P10.4
	src := rand.New(rand.NewSource(104))
	for _, x := range []Envelope{of(nil, undo(4)), of(vec(2, 3), ins(5, "ab"), del(sp(2, 6, 1)), ins(7, "c")), {Deps: vec(0, mostSeq), Txn: txn.Txn{R: 1, Seq: 1, Clock: mostClock, Ops: []op.Op{ins(1, "~~~")}}}} {
		b := plainBytes(x)
		for length := 1; length <= 32; length++ {
			all := patterns(src, length)
			for at := range 8*len(b) - length + 1 {
				for _, p := range all {
					if !refused(turned(b, at, length, p)) {
						t.Fatalf("% x with %0*b turned from bit %d on is an envelope", b, length, p, at)
					}
				}
			}
		}
	}
	for _, x := range append(fitting(), named(7, 3, many(7, 3000))) { // of long ones some
		b := plainBytes(x)
		for range 300 {
			length := 1 + src.Intn(32)
			at := src.Intn(8*len(b) - length + 1)
			all := patterns(src, length)
			if !refused(turned(b, at, length, all[src.Intn(len(all))])) {
				t.Fatalf("%v, with %d bits turned from bit %d on, is an envelope", x, length, at)
			}
		}
	}
}

func TestCutBytesAreRefused(t *testing.T) { // P10.4
	for _, x := range fitting() {
		b := plainBytes(x)
		for i := range min(len(b), 400) {
			if !refused(b[:i]) || !refused(b[:len(b)-1-i]) {
				t.Fatalf("%v, cut at %d, is an envelope", x, i)
			}
			want := api.ErrFrame
			if i < 11 {
				want = api.ErrShort
			}
			tells(t, "cut", b[:i], want)
		}
		for i := 1; i < min(len(b), 100); i++ { // and ahead, and at both ends
			if !refused(b[i:]) || !refused(b[i:max(i, len(b)-i)]) {
				t.Fatalf("%v, without its first %d bytes, is an envelope", x, i)
			}
		}
	}
}

func TestBytesWithOthersBehindAreRefused(t *testing.T) { // P10.4
	src := rand.New(rand.NewSource(1040))
	for _, x := range fitting() {
		b := plainBytes(x)
		for other := range 256 {
			for _, count := range []int{1, 2, 4, 11} {
				tells(t, "others behind", append(slices.Clone(b), bytes.Repeat([]byte{byte(other)}, count)...), api.ErrFrame)
			}
		}
		tells(t, "itself behind", slices.Concat(b, b), api.ErrFrame)
		tells(t, "another one behind", slices.Concat(b, plainBytes(of(nil, undo(4)))), api.ErrFrame)
		tells(t, "its sum behind", seal(b), api.ErrFrame)
		tells(t, "too many behind", append(slices.Clone(b), make([]byte, mostFrame)...), api.ErrLong)
		for range 50 {
			more := make([]byte, 1+src.Intn(100))
			src.Read(more)
			tells(t, "some behind", slices.Concat(b, more), api.ErrFrame)
		}
	}
}

func TestMemoryHandedIn(t *testing.T) { // what is handed in is neither changed nor kept, its spare room neither
	room := func() Envelope {
		x := of(append(vec(1, 2, 4, 3), vec(9, 9, 8, 8)...)[:2], ins(4, "ab"), del(sp(1, 1, 2), sp(2, 1, 1)), move(6, sp(1, 1, 2)), ins(8, "c"))
		x.Txn.Ops = append(x.Txn.Ops, undo(9), redo(9))[:4]
		return x
	}
	x, have := room(), append(vec(1, 1, 3, 2), vec(7, 7, 6, 6)...)[:2]
	wantX, wantHave := room(), append(vec(1, 1, 3, 2), vec(7, 7, 6, 6)...)
	unchanged := func() bool {
		return slices.Equal(x.Deps[:4], wantX.Deps[:4]) && slices.EqualFunc(x.Txn.Ops[:6], wantX.Txn.Ops[:6], sameOp) && slices.Equal(have[:4], wantHave)
	}
	for _, seq := range []uint32{1, 5, mostSeq, 0} {
		for _, r := range []uint16{0, 1, 3, 4, 5, mostWriter} {
			x.Txn.R, x.Txn.Seq = r, seq
			x.Fit()
			x.Ready(have)
			x.Past(have)
			x.Needs(have)
			x.Atom(2)
			Encode(x)
			if !unchanged() {
				t.Fatalf("an argument was changed: %v, %v", x.Deps[:4], have[:4])
			}
		}
	}
	x.Txn.R, x.Txn.Seq = 3, 5
	b, e := Encode(x)
	want := slices.Clone(b)
	clear(x.Deps[:4])
	clear(x.Txn.Ops[1].Spans)
	clear(x.Txn.Ops[:6])
	if e != api.OK || !bytes.Equal(b, want) || !bytes.Equal(b, plainBytes(wantX)) {
		t.Errorf("% x", b)
	}
	// Bytes, with others in the room behind them.
	all := append(slices.Clone(b), "others behind"...)
	was := slices.Clone(all)
	y, e := Decode(all[:len(b)])
	Decode(all)
	Decode(all[:len(b)-1])
	if e != api.OK || !bytes.Equal(all, was) {
		t.Errorf("% x, %d", all, e)
	}
	clear(all)
	if !same(y, wantX) {
		t.Error(y)
	}
}

func TestMemoryTold(t *testing.T) { // what is told is new memory
	x := of(vec(1, 2, 4, 3), ins(4, "ab"), del(sp(1, 1, 2), sp(2, 1, 1)), ins(6, "c"))
	want := copied(x)
	one, _ := Encode(x)
	two, _ := Encode(x)
	clear(one[:cap(one)])
	if !bytes.Equal(two, plainBytes(x)) || !same(x, want) {
		t.Errorf("% x", two)
	}
	first, _ := Decode(two)
	second, _ := Decode(two)
	clear(first.Txn.Ops[1].Spans[:cap(first.Txn.Ops[1].Spans)])
	clear(first.Txn.Ops[:cap(first.Txn.Ops)])
	clear(first.Deps[:cap(first.Deps)])
	if !same(second, want) || !bytes.Equal(two, plainBytes(want)) {
		t.Error(second)
	}
	have := vec(3, 1)
	needs, others := x.Needs(have), x.Needs(have)
	clear(needs[:cap(needs)])
	if !slices.Equal(others, gaps(1, 1, 2, 3, 2, 4, 4, 1, 3)) || !same(x, want) || !slices.Equal(have, vec(3, 1)) {
		t.Error(others)
	}
	// Nothing is kept from call to call.
	Decode(plainBytes(of(nil, undo(4))))
	Decode([]byte("wrong"))
	Encode(Envelope{})
	if b, e := Encode(x); e != api.OK || !bytes.Equal(b, two) {
		t.Errorf("% x, %d", b, e)
	}
}

func pick[T any](src *rand.Rand, l ...T) T { return l[src.Intn(len(l))] }

// someVector are entries, mostly a vector of a few replicas.
func someVector(src *rand.Rand, most uint32) vector.Vector {
	v := vector.Vector{}
	for range src.Intn(5) {
		v = v.With(uint16(src.Intn(7)), 1+uint32(src.Intn(int(most))))
	}
	return v
}

// anyOps are operations, mostly such as may stand together.
func anyOps(src *rand.Rand) []op.Op {
	if src.Intn(5) == 0 {
		return []op.Op{pick(src, undo, redo)(uint32(src.Intn(6)))}
	}
	next := pick[uint32](src, 1, 7, 300, mostN-600, mostN)
	var l []op.Op
	for range pick(src, 1, 1, 2, 3, 5, 16, 17*(src.Intn(2))) {
		o := del(sp(uint16(src.Intn(3)), uint32(1+src.Intn(5)), 1+src.Intn(300)))
		switch src.Intn(3) {
		case 0:
			o = ins(next, "abcdefgh\n"[src.Intn(9):])
		case 1:
			o = move(next, sp(1, uint32(1+src.Intn(300)), 1+src.Intn(3)), sp(2, 1, 1))
			o.Anchor = id(uint16(src.Intn(3)), uint32(1+src.Intn(3)))
		}
		switch src.Intn(80) {
		case 0:
			o = pick(src, op.Op{}, ins(next, ""), ins(next, strings.Repeat("a", 65)), del(sp(1, 1, 1024), sp(2, 1, 1)), del(sp(1, 1, 1), sp(1, 1, 1)), undo(1))
		case 1:
			next++
		}
		next += uint32(o.Atoms())
		l = append(l, o)
	}
	return l
}

// anyEnvelope is an envelope, mostly one that fits.
func anyEnvelope(src *rand.Rand) Envelope {
	x := Envelope{Deps: someVector(src, 6), Txn: txn.Txn{R: uint16(src.Intn(7)), Seq: uint32(1 + src.Intn(6)), Clock: uint64(1 + src.Int63n(mostClock)), User: src.Intn(8), Ops: anyOps(src)}}
	if src.Intn(4) != 0 {
		x.Deps = x.Deps.With(x.Txn.R, 0)
	}
	if len(x.Deps) > 0 {
		i, j := src.Intn(len(x.Deps)), src.Intn(len(x.Deps))
		switch src.Intn(12) {
		case 0:
			x.Deps[i].Seq = pick[uint32](src, 0, mostSeq, mostSeq+1, math.MaxUint32)
		case 1:
			x.Deps[i], x.Deps[j] = x.Deps[j], x.Deps[i]
		case 2:
			x.Deps[i].R = x.Deps[j].R
		case 3:
			x.Deps[len(x.Deps)-1] = vector.Entry{R: mostWriter, Seq: mostSeq}
		}
	}
	switch src.Intn(20) {
	case 0:
		x.Txn.Seq = pick[uint32](src, 0, mostSeq, mostSeq+1)
	case 1:
		x.Txn.Clock = pick[uint64](src, 0, mostClock+1)
	case 2:
		x.Txn.User = pick(src, -1, 8)
	}
	return x
}

func TestEnvelopesOfAnyKind(t *testing.T) { // P10.1, P10.2, P10.3
	src := rand.New(rand.NewSource(10))
	seen, stood := map[api.Errno]int{}, map[[2]bool]int{}
	for range 20000 {
		x := anyEnvelope(src)
		e := holds(t, x)
		seen[e]++
		if e != api.OK || x.Txn.Seq > 100 || slices.ContainsFunc(x.Deps, func(d vector.Entry) bool { return d.Seq > 100 }) {
			continue
		}
		have := someVector(src, 8)
		if src.Intn(2) == 0 { // near to what is needed
			have = have.Join(x.Deps).With(x.Txn.R, max(x.Txn.Seq+uint32(src.Intn(3)), 2)-2)
		}
		ready, past := standsHold(t, x, have)
		stood[[2]bool{ready, past}]++
	}
	for _, e := range []api.Errno{api.OK, api.ErrForm, api.ErrMany, api.ErrLong, api.ErrTwice} {
		if seen[e] < 50 {
			t.Errorf("error %d: only %d times", e, seen[e])
		}
	}
	for _, s := range [][2]bool{{false, false}, {true, false}, {false, true}} {
		if stood[s] < 500 {
			t.Errorf("%v: only %d times", s, stood[s])
		}
	}
}

func TestBytesOfAnyKind(t *testing.T) { // P10.3
	src := rand.New(rand.NewSource(103))
	all, seen := fitting()[:13], map[api.Errno]int{}
	for range 60000 {
		var b []byte
		switch src.Intn(5) {
		case 0: // whatever
			b = make([]byte, src.Intn(60))
			src.Read(b)
			copy(b, []byte("CP\x01")[:src.Intn(4)])
		case 1: // whatever, rightly sealed
			b = make([]byte, src.Intn(40))
			src.Read(b)
			b = frame(append(written(src.Intn(3), 2)[:src.Intn(3)], b...)...)
		case 2: // small numbers, now and then a great one, rightly sealed
			for range src.Intn(30) {
				b = append(b, number(src.Intn(8)<<(7*(src.Intn(10)/8)))...)
			}
			b = frame(b...)
		case 3: // an envelope, with a byte that is another one, rightly sealed
			b = insideOf(pick(src, all...))
			b[src.Intn(min(len(b), 40))] = byte(src.Intn(256))
			b = frame(b...)
		case 4: // and not
			b = plainBytes(pick(src, all...))
			b[src.Intn(min(len(b), 50))] = byte(src.Intn(256))
		}
		seen[decodeHolds(t, b)]++
	}
	for _, e := range []api.Errno{api.OK, api.ErrForm, api.ErrShort, api.ErrLong, api.ErrFrame, api.ErrSum, api.ErrRange} {
		if seen[e] < 50 {
			t.Errorf("error %d: only %d times", e, seen[e])
		}
	}
	for a := range 256 {
		for b := range 256 {
			x, y := byte(a), byte(b)
			for _, inside := range [][]byte{{x, y}, {x, y, 3, 5, 9, 2, 1, 4, 4}, {x, y, 1, 3, 5, 9, 2, 1, 4, 4}, {1, x, y, 3, 5, 9, 2, 1, 4, 4}, {1, 2, x, y, 5, 9, 2, 1, 4, 4}, {2, 2, 1, x, y, 3, 5, 9, 2, 1, 4, 4}, {0, x, y, 9, 2, 1, 4, 4}, {0, 3, 5, 9, 2, 1, 4, x, y}} {
				decodeHolds(t, frame(inside...))
			}
		}
	}
}

func TestEndsAtAnyArguments(t *testing.T) { // P1
	wild := op.Op{Kind: op.Move, Anchor: id(1, 0), N: math.MaxUint32, Spans: []span.Span{sp(1, math.MaxUint32, math.MaxInt), sp(0, 0, math.MinInt)}}
	lists := [][]op.Op{nil, {{}}, {wild}, {{Kind: math.MinInt}}, {{Kind: math.MaxInt, N: 1, Seq: math.MaxUint32}}, {undo(0), redo(math.MaxUint32)}, {move(0, sp(1, 1, 5))}, slices.Repeat([]op.Op{wild}, 1000), make([]op.Op, 10000), {ins(math.MaxUint32, strings.Repeat("\xff", 1<<20))}, {ins(1, "ab"), ins(1, "cd")}}
	vectors := []vector.Vector{nil, {}, vec(0, 0), vec(5, 0, 5, 0, 5, 0), vec(9, math.MaxUint32, 1, math.MaxUint32), vec(3, 3, 2, 2, 1, 1, 0, 0), make(vector.Vector, 70000), vec(mostWriter, mostSeq+1, 0, 1)}
	for _, ops := range lists {
		for _, n := range []uint64{0, 1, mostSeq, math.MaxUint64} {
			for _, deps := range vectors {
				x := Envelope{Deps: deps, Txn: txn.Txn{R: uint16(n), Seq: uint32(n), Clock: n, User: int(n), Ops: ops}}
				x.Fit()
				Encode(x)
				for _, i := range []int{math.MinInt, -1, 0, 1, 5, math.MaxInt} {
					x.Atom(i)
				}
				for _, have := range vectors[:6] {
					x.Ready(have)
					x.Past(have)
					x.Needs(have)
				}
			}
		}
	}
	for _, have := range vectors {
		x := of(vectors[6], wild)
		x.Ready(have)
		x.Past(have)
		x.Needs(have)
	}
	Decode(bytes.Repeat([]byte{0xff}, 5*mostFrame))
	Decode(frame(bytes.Repeat([]byte{0xff}, mostFrame-11)...))
	Decode(frame(number(allWriters)...))
}
