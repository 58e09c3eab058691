package hold

import (
	"math"
	"math/rand"
	"slices"
	"strings"
	"testing"

	"copyist/api"
	"copyist/ident"
	"copyist/op"
	"copyist/span"
	"copyist/txn"
	"copyist/vector"
	"copyist/wire"
)

// The limits as numbers, as the document says them, not as the program takes them.
const (
	room       = 64
	mostSeq    = 268435456
	mostClock  = 1099511627776
	mostWriter = 65535
)

func sp(r uint16, n uint32, length int) span.Span {
	return span.Span{ID: ident.ID{R: r, N: n}, Len: length}
}

func ins(n uint32, s string) op.Op { return op.Op{Kind: op.Insert, N: n, Text: s} }

func del(l ...span.Span) op.Op { return op.Op{Kind: op.Delete, Spans: l} }

func undo(seq uint32) op.Op { return op.Op{Kind: op.Undo, Seq: seq} }

// vec is a list of entries: of each the replica, and how much of it.
func vec(numbers ...int) vector.Vector {
	var v vector.Vector
	for i := 0; i < len(numbers); i += 2 {
		v = append(v, vector.Entry{R: uint16(numbers[i]), Seq: uint32(numbers[i+1])})
	}
	return v
}

// gaps are of each the replica, from, and to.
func gaps(numbers ...int) []vector.Gap {
	var l []vector.Gap
	for i := 0; i < len(numbers); i += 3 {
		l = append(l, vector.Gap{R: uint16(numbers[i]), From: uint32(numbers[i+1]), To: uint32(numbers[i+2])})
	}
	return l
}

// names are of each the replica, and its number there.
func names(numbers ...int) []txn.ID {
	var l []txn.ID
	for i := 0; i < len(numbers); i += 2 {
		l = append(l, txn.ID{R: uint16(numbers[i]), Seq: uint32(numbers[i+1])})
	}
	return l
}

// of is an envelope of the transaction of this name, that inserts a text, behind what the entries say.
func of(r, seq int, text string, deps ...int) wire.Envelope {
	return wire.Envelope{Deps: vec(deps...), Txn: txn.Txn{R: uint16(r), Seq: uint32(seq), Clock: uint64(seq), User: seq % 8, Ops: []op.Op{ins(7, text)}}}
}

// env is one of which the text doesn't matter.
func env(r, seq int, deps ...int) wire.Envelope { return of(r, seq, "a", deps...) }

func sameOp(a, b op.Op) bool {
	return a.Kind == b.Kind && a.Anchor == b.Anchor && a.N == b.N && a.Text == b.Text && slices.Equal(a.Spans, b.Spans) && a.Seq == b.Seq
}

func sameTxn(a, b txn.Txn) bool {
	return a.R == b.R && a.Seq == b.Seq && a.Clock == b.Clock && a.User == b.User && slices.EqualFunc(a.Ops, b.Ops, sameOp)
}

// same tells whether two envelopes have the same fields; lists that are nil and empty are one.
func same(a, b wire.Envelope) bool { return slices.Equal(a.Deps, b.Deps) && sameTxn(a.Txn, b.Txn) }

func empty(e wire.Envelope) bool { return same(e, wire.Envelope{}) }

// copied is the same envelope, that shares no memory with the first one.
func copied(e wire.Envelope) wire.Envelope {
	e.Deps, e.Txn.Ops = slices.Clone(e.Deps), slices.Clone(e.Txn.Ops)
	for i := range e.Txn.Ops {
		e.Txn.Ops[i].Spans = slices.Clone(e.Txn.Ops[i].Spans)
	}
	return e
}

// spoil changes all memory that an envelope leads to, spare room too.
func spoil(e wire.Envelope) {
	for _, o := range e.Txn.Ops {
		clear(o.Spans[:cap(o.Spans)])
	}
	clear(e.Txn.Ops[:cap(e.Txn.Ops)])
	clear(e.Deps[:cap(e.Deps)])
}

func byName(a, b txn.ID) int {
	if a.R != b.R {
		return int(a.R) - int(b.R)
	}
	return int(a.Seq) - int(b.Seq)
}

// known are all transactions that a vector knows, one by one.
func known(v vector.Vector) map[txn.ID]bool {
	all := map[txn.ID]bool{}
	for _, e := range v {
		for seq := range e.Seq {
			all[txn.ID{R: e.R, Seq: seq + 1}] = true
		}
	}
	return all
}

// ahead are all transactions that must be known ahead of an envelope, one by one.
func ahead(e wire.Envelope) map[txn.ID]bool {
	all := known(e.Deps)
	for seq := uint32(1); seq < e.Txn.Seq; seq++ {
		all[txn.ID{R: e.Txn.R, Seq: seq}] = true
	}
	return all
}

// plain is the reference for a buffer, of small numbers: envelopes by their names, in no order.
type plain map[txn.ID]wire.Envelope

func (p plain) names() []txn.ID {
	var l []txn.ID
	for name := range p {
		l = append(l, name)
	}
	slices.SortFunc(l, byName)
	return l
}

func (p plain) put(e wire.Envelope) (bool, api.Errno) {
	if _, waits := p[e.Txn.ID()]; waits {
		return false, api.OK
	}
	if len(p) == room {
		return false, api.ErrFull
	}
	p[e.Txn.ID()] = copied(e)
	return true, api.OK
}

func (p plain) take(have vector.Vector) (wire.Envelope, bool) {
	is := known(have)
next:
	for _, name := range p.names() {
		for other := range ahead(p[name]) {
			if !is[other] {
				continue next
			}
		}
		if !is[name] {
			e := p[name]
			delete(p, name)
			return e, true
		}
	}
	return wire.Envelope{}, false
}

func (p plain) drop(have vector.Vector) int {
	is, count := known(have), 0
	for _, name := range p.names() {
		if is[name] {
			delete(p, name)
			count++
		}
	}
	return count
}

// wants are the names that must be known and aren't, put together to gaps.
func (p plain) wants(have vector.Vector) []vector.Gap {
	is, must := known(have), map[txn.ID]bool{}
	for _, e := range p {
		for name := range ahead(e) {
			must[name] = true
		}
	}
	var left []txn.ID
	for name := range must {
		if !is[name] {
			left = append(left, name)
		}
	}
	slices.SortFunc(left, byName)
	var l []vector.Gap
	for _, name := range left {
		last := len(l) - 1
		if last >= 0 && l[last].R == name.R && l[last].To+1 == name.Seq {
			l[last].To++
			continue
		}
		l = append(l, vector.Gap{R: name.R, From: name.Seq, To: name.Seq})
	}
	return l
}

// puts puts envelopes that are to be taken, all of them.
func puts(t *testing.T, h *Buffer, all ...wire.Envelope) {
	t.Helper()
	for _, e := range all {
		if ok, wrong := h.Put(e); !ok || wrong != api.OK {
			t.Fatalf("Put of %v: %t, %d", e.Txn.ID(), ok, wrong)
		}
	}
}

// refuses looks at what Put tells of one that isn't to be taken, and that nothing else waits then.
func refuses(t *testing.T, h *Buffer, e wire.Envelope, want api.Errno) {
	t.Helper()
	before := h.Names()
	if ok, wrong := h.Put(e); ok || wrong != want {
		t.Errorf("Put of %v: %t, %d, want %d", e.Txn.ID(), ok, wrong, want)
	}
	waits(t, h, before...)
}

// waits looks at what waits, by name.
func waits(t *testing.T, h *Buffer, want ...txn.ID) {
	t.Helper()
	if got := h.Names(); !slices.Equal(got, want) || h.Len() != len(want) {
		t.Errorf("%d wait: %v, want %v", h.Len(), got, want)
	}
}

// takes looks at what is taken, and that it waits no more, while all others do.
func takes(t *testing.T, h *Buffer, have vector.Vector, want wire.Envelope) {
	t.Helper()
	left := slices.DeleteFunc(h.Names(), func(name txn.ID) bool { return name == want.Txn.ID() })
	if e, ok := h.Take(have); !ok || !same(e, want) {
		t.Errorf("Take of %v: %v, %t, want %v", have, e, ok, want)
	}
	waits(t, h, left...)
}

// takesNone looks at what is told where none is ready.
func takesNone(t *testing.T, h *Buffer, have vector.Vector) {
	t.Helper()
	before := h.Names()
	if e, ok := h.Take(have); ok || !empty(e) {
		t.Errorf("Take of %v: %v, %t", have, e, ok)
	}
	waits(t, h, before...)
}

// drops looks at how many go, and at those that wait behind it.
func drops(t *testing.T, h *Buffer, have vector.Vector, want int, left ...txn.ID) {
	t.Helper()
	if got := h.Drop(have); got != want {
		t.Errorf("Drop of %v: %d, want %d", have, got, want)
	}
	waits(t, h, left...)
}

// wants looks at the gaps that are told, and that nothing waits no more.
func wants(t *testing.T, h *Buffer, have vector.Vector, want ...vector.Gap) {
	t.Helper()
	before := h.Names()
	if got := h.Wants(have); !slices.Equal(got, want) {
		t.Errorf("Wants of %v: %v, want %v", have, got, want)
	}
	waits(t, h, before...)
}

func TestChapterExample(t *testing.T) { // P11.1, P11.2
	for _, all := range [][]wire.Envelope{{env(1, 2), env(2, 1)}, {env(2, 1), env(1, 2)}} {
		var h Buffer
		puts(t, &h, all...)
		waits(t, &h, names(1, 2, 2, 1)...)
		takes(t, &h, nil, env(2, 1))
		wants(t, &h, nil, gaps(1, 1, 1)...)
		takesNone(t, &h, nil)
	}
}

func TestZeroBuffer(t *testing.T) { // P11.1, P11.2
	for _, have := range []vector.Vector{nil, {}, vec(1, 1), vec(0, mostSeq, mostWriter, mostSeq)} {
		var h Buffer
		waits(t, &h)
		takesNone(t, &h, have)
		drops(t, &h, have, 0)
		wants(t, &h, have)
		waits(t, &h)
		puts(t, &h, env(1, 2, 2, 3)) // as its first call, and behind others
		waits(t, &h, names(1, 2)...)
		var other Buffer // what waits in one doesn't wait in another one
		waits(t, &other)
		puts(t, &other, env(1, 2))
		drops(t, &other, vec(1, 2), 1)
		waits(t, &h, names(1, 2)...)
	}
	var h Buffer // emptied, it is as it was
	puts(t, &h, env(1, 1), env(1, 2))
	takes(t, &h, nil, env(1, 1))
	drops(t, &h, vec(1, 2), 1)
	takesNone(t, &h, nil)
	drops(t, &h, vec(1, 2), 0)
	wants(t, &h, nil)
	puts(t, &h, env(1, 1))
	takes(t, &h, nil, env(1, 1))
}

func TestSameNameAgain(t *testing.T) { // P11.1: what waited first is what waits
	var h Buffer
	first := of(1, 2, "first", 3, 4)
	puts(t, &h, first)
	refuses(t, &h, first, api.OK)
	refuses(t, &h, of(1, 2, "other"), api.OK)
	refuses(t, &h, of(1, 2, "other", 3, 5, 9, 9), api.OK)
	puts(t, &h, env(1, 1), env(1, 3), env(0, 2), env(2, 2), env(2, 1)) // with a part of its name
	for _, other := range []wire.Envelope{env(1, 1, 2, 2), env(1, 3, 2, 2), of(0, 2, "other"), of(2, 2, "other"), of(2, 1, "other"), of(1, 2, "other")} {
		refuses(t, &h, other, api.OK)
	}
	waits(t, &h, names(0, 2, 1, 1, 1, 2, 1, 3, 2, 1, 2, 2)...)
	takes(t, &h, vec(1, 1, 3, 4), first)
	second := of(1, 2, "second", 3, 5)
	puts(t, &h, second) // it waits no more, so that another one of its name may
	refuses(t, &h, first, api.OK)
	wants(t, &h, vec(0, 1, 1, 2, 2, 1), gaps(3, 1, 5)...)
	takes(t, &h, vec(1, 1, 3, 5), second)
	puts(t, &h, first)
	drops(t, &h, vec(1, 3), 3, names(0, 2, 2, 1, 2, 2)...)
	puts(t, &h, second)
	takes(t, &h, vec(1, 1, 3, 5), second)
}

// orders calls a function with all orders of a list.
func orders[T any](l []T, at int, f func([]T)) {
	if at == len(l) {
		f(l)
		return
	}
	for i := at; i < len(l); i++ {
		l[at], l[i] = l[i], l[at]
		orders(l, at+1, f)
		l[at], l[i] = l[i], l[at]
	}
}

func TestNamesInOrder(t *testing.T) { // P11.1: however they are put
	for _, want := range [][]txn.ID{
		names(1, 1, 1, 2, 1, 3, 1, 4), names(0, 5, 1, 4, 2, 3, 3, 2, 4, 1), names(0, 1, 0, mostSeq, 1, 127, 1, 128, 256, 1, mostWriter, 1), names(2, 255, 2, 256, 2, 65536, 3, 1, 255, 3, 256, 2), names(0, mostSeq, mostWriter, mostSeq),
	} {
		orders(slices.Clone(want), 0, func(l []txn.ID) {
			var h Buffer
			for i, name := range l {
				puts(t, &h, env(int(name.R), int(name.Seq)))
				sorted := slices.Clone(l[:i+1])
				slices.SortFunc(sorted, byName)
				waits(t, &h, sorted...)
			}
			waits(t, &h, want...)
			for _, name := range l {
				refuses(t, &h, env(int(name.R), int(name.Seq), 7, 7), api.OK)
			}
		})
	}
}

// full is a buffer in which as many wait as there is room for: of replicas 1 and 3, in turn, each from 2 on by twos.
func full(t *testing.T) (*Buffer, []txn.ID) {
	t.Helper()
	var h Buffer
	var all []txn.ID
	for i := range room {
		e := env(1+i%2*2, 2+i/2*2)
		all = append(all, e.Txn.ID())
		puts(t, &h, e)
		if h.Len() != i+1 {
			t.Fatalf("%d wait, of %d", h.Len(), i+1)
		}
	}
	slices.SortFunc(all, byName)
	waits(t, &h, all...)
	return &h, all
}

func TestRoom(t *testing.T) { // P11.1
	others := []wire.Envelope{env(0, 1), env(1, 1), env(1, 3), env(2, 9), env(3, 1), env(3, 65), env(3, 66), env(4, 1), env(mostWriter, mostSeq)}
	h, all := full(t)
	for _, e := range others {
		refuses(t, h, e, api.ErrFull)
	}
	for _, name := range all { // one of a name that waits is told as such, room or not
		refuses(t, h, of(int(name.R), int(name.Seq), "other"), api.OK)
	}
	for _, e := range others { // one was taken: there is room for one, whichever
		h, all := full(t)
		takes(t, h, vec(1, 1), env(1, 2))
		puts(t, h, e)
		refuses(t, h, of(1, 2, "again"), api.ErrFull)
		refuses(t, h, e, api.OK)
		want := append(all[1:], e.Txn.ID())
		slices.SortFunc(want, byName)
		waits(t, h, want...)
	}
	h, _ = full(t)
	takes(t, h, vec(3, 63), env(3, 64)) // the last one in order
	puts(t, h, of(3, 64, "again"))
	refuses(t, h, env(3, 66), api.ErrFull)
	takes(t, h, vec(3, 63), of(3, 64, "again"))
	h, all = full(t) // some were dropped: there is room for so many
	drops(t, h, vec(1, 5, 3, 2), 3, slices.Concat(all[2:32], all[33:])...)
	puts(t, h, env(1, 2), env(1, 3), env(9, 9))
	for _, e := range others {
		if e.Txn.ID() != (txn.ID{R: 1, Seq: 3}) {
			refuses(t, h, e, api.ErrFull)
		}
	}
	drops(t, h, vec(1, mostSeq, 3, mostSeq, 9, 9), room) // all were
	for i := range room {
		puts(t, h, env(i, 1))
	}
	refuses(t, h, env(room, 1), api.ErrFull)
	refuses(t, h, env(room-1, 1), api.OK)
	takesNone(t, h, vec(room, 1).Join(h.knownOnes())) // a Take that tells none, and a Drop of none, make no room
	drops(t, h, vec(room, 1), 0, h.Names()...)
	refuses(t, h, env(room, 1), api.ErrFull)
}

// knownOnes is a vector by which all that wait are known, and none is taken.
func (h *Buffer) knownOnes() vector.Vector {
	var v vector.Vector
	for _, name := range h.Names() {
		v = v.With(name.R, name.Seq)
	}
	return v
}

func TestTakeWhereNoneIsReady(t *testing.T) { // P11.2
	for i, x := range []struct {
		e    wire.Envelope
		have vector.Vector
	}{
		{env(1, 2), nil}, {env(1, 2), vec(1, 2)}, {env(1, 2), vec(1, 3)}, {env(1, 2), vec(0, 1, 2, 1)}, {env(1, 3), vec(1, 1)}, {env(1, 1), vec(1, 1)}, {env(1, 1), vec(1, mostSeq)},
		{env(1, 1, 2, 1), nil}, {env(1, 1, 2, 2), vec(2, 1)}, {env(1, 1, 2, 1), vec(3, 1)}, {env(1, 2, 2, 1), vec(2, 1)}, {env(1, 2, 2, 1), vec(1, 1)}, {env(1, 2, 2, 1), vec(1, 2, 2, 1)}, {env(1, 2, 2, 1, 3, 4), vec(1, 1, 2, 5, 3, 3)}, {env(1, 2, 0, 1, 3, 4), vec(1, 1, 3, 4)},
		{env(0, mostSeq), vec(0, mostSeq)}, {env(0, mostSeq), vec(0, mostSeq-2)}, {env(mostWriter, 1, 0, mostSeq), vec(0, mostSeq-1)},
	} {
		var h Buffer
		puts(t, &h, x.e)
		takesNone(t, &h, x.have)
		takesNone(t, &h, x.have)
		if h.Len() != 1 {
			t.Errorf("%d: nothing waits", i)
		}
	}
}

func TestTakeWhereOneIsReady(t *testing.T) { // P11.2
	never := []wire.Envelope{env(0, 9), env(1, 9, 2, 7), env(2, 1, 9, 9), env(3, 8), env(mostWriter, 2)}
	for _, x := range []struct {
		e    wire.Envelope
		have vector.Vector
	}{
		{env(1, 1), nil}, {env(1, 1), vec(0, 5, 2, 5)}, {env(1, 2), vec(1, 1)}, {env(0, 1), vec(1, 1)}, {env(2, 3), vec(2, 2)}, {env(1, 1, 2, 1), vec(2, 1)}, {env(1, 1, 2, 1), vec(2, 6)}, {env(1, 2, 2, 1, 3, 4), vec(1, 1, 2, 1, 3, 4)}, {env(mostWriter-1, 300, 0, 1), vec(0, 4, mostWriter-1, 299)}, {env(mostWriter, mostSeq, 0, mostSeq-1), vec(0, mostSeq, mostWriter, mostSeq-1)}, {env(4, 1), nil},
	} {
		var alone, h Buffer
		puts(t, &alone, x.e)
		takes(t, &alone, x.have, x.e)
		takesNone(t, &alone, x.have)
		puts(t, &h, never...)
		puts(t, &h, x.e)
		takes(t, &h, x.have, x.e)
		takesNone(t, &h, x.have)
	}
}

func TestTakeWhereSeveralAreReady(t *testing.T) { // P11.2: the first one in order, however they were put, and again until none is
	all := []wire.Envelope{env(0, 3), env(1, 1, 3, 1), env(1, 2), env(3, 2), env(4, 7, 0, 2), env(mostWriter, 1)}
	have := vec(0, 2, 3, 1, 4, 6) // of 1:2 alone not all is known
	ready := []wire.Envelope{all[0], all[1], all[3], all[4], all[5]}
	orders(slices.Clone(all), 0, func(l []wire.Envelope) {
		var h Buffer
		puts(t, &h, l...)
		for _, want := range ready {
			takes(t, &h, have, want)
		}
		takesNone(t, &h, have)
		takes(t, &h, have.With(1, 1), all[2])
		takesNone(t, &h, nil)
		waits(t, &h)
	})
	for _, want := range all { // the first, the last, and each one between, alone ready: of all others too much is known
		var h Buffer
		puts(t, &h, all...)
		only := vec(0, 3, 1, 2, 3, 2, 4, 7, mostWriter, 1).With(want.Txn.R, want.Txn.Seq-1)
		takes(t, &h, only, want)
		takesNone(t, &h, only)
	}
}

func TestTakeGoesOn(t *testing.T) { // P11.2: as ever more is known, all come, each behind what it needs
	src := rand.New(rand.NewSource(112))
	for range 200 {
		var all []wire.Envelope
		have := vector.Vector{}
		for range room {
			r := src.Intn(5)
			e := env(r, int(have.Get(uint16(r)))+1)
			e.Deps = have.With(uint16(r), 0)
			all, have = append(all, e), have.With(e.Txn.R, e.Txn.Seq)
		}
		src.Shuffle(len(all), func(i, j int) { all[i], all[j] = all[j], all[i] })
		var h Buffer
		puts(t, &h, all...)
		done := vector.Vector{}
		for h.Len() > 0 {
			e, ok := h.Take(done)
			if !ok || done.Get(e.Txn.R)+1 != e.Txn.Seq || !done.Covers(e.Deps) {
				t.Fatalf("%v, %t", e, ok)
			}
			done = done.With(e.Txn.R, e.Txn.Seq)
		}
		if done.Stands(have) != vector.Same {
			t.Fatalf("%v, want %v", done, have)
		}
	}
}

func TestDrop(t *testing.T) { // P11.2
	all := []wire.Envelope{env(0, 1), env(0, 2, 9, 9), env(2, 3), env(2, 4), env(3, 300), env(mostWriter, mostSeq)}
	every := names(0, 1, 0, 2, 2, 3, 2, 4, 3, 300, mostWriter, mostSeq)
	for _, x := range []struct {
		have  vector.Vector
		count int
		left  []txn.ID
	}{
		{nil, 0, every}, {vector.Vector{}, 0, every}, {vec(1, 9, 4, 9), 0, every}, {vec(2, 2, 3, 299, mostWriter, mostSeq-1), 0, every}, // just ready ones stay
		{vec(0, 1), 1, every[1:]}, {vec(0, 2), 2, every[2:]}, {vec(0, 3), 2, every[2:]}, {vec(0, mostSeq), 2, every[2:]},
		{vec(2, 3), 1, slices.Concat(every[:2], every[3:])}, {vec(2, 4), 2, slices.Concat(every[:2], every[4:])}, {vec(3, 300), 1, slices.Concat(every[:4], every[5:])}, {vec(mostWriter, mostSeq), 1, every[:5]},
		{vec(0, 1, 2, 3, 3, 300), 3, names(0, 2, 2, 4, mostWriter, mostSeq)}, {vec(0, 1, mostWriter, mostSeq), 2, every[1:5]},
		{vec(0, 2, 2, 4, 3, 300, mostWriter, mostSeq), 6, nil}, {vec(0, 9, 1, 9, 2, 9, 3, 301, 4, 1, mostWriter, mostSeq), 6, nil},
	} {
		var h Buffer
		puts(t, &h, all...)
		drops(t, &h, x.have, x.count, x.left...)
		drops(t, &h, x.have, 0, x.left...)
		for _, e := range all { // those that went may wait again, those that stayed wait
			if slices.Contains(x.left, e.Txn.ID()) {
				refuses(t, &h, e, api.OK)
			} else {
				puts(t, &h, e)
			}
		}
		waits(t, &h, every...)
	}
}

func TestWants(t *testing.T) { // P11.2
	for i, x := range []struct {
		all  []wire.Envelope
		have vector.Vector
		want []vector.Gap
	}{
		// Of one: of its own replica, of others, of both; of what is known, in part or wholly.
		{[]wire.Envelope{env(1, 1)}, nil, nil}, {[]wire.Envelope{env(1, 2)}, nil, gaps(1, 1, 1)}, {[]wire.Envelope{env(1, 5)}, nil, gaps(1, 1, 4)}, {[]wire.Envelope{env(1, 5)}, vec(1, 2), gaps(1, 3, 4)}, {[]wire.Envelope{env(1, 5)}, vec(1, 3), gaps(1, 4, 4)}, {[]wire.Envelope{env(1, 5)}, vec(1, 4), nil}, {[]wire.Envelope{env(1, 5)}, vec(1, 5), nil}, {[]wire.Envelope{env(1, 5)}, vec(1, 9), nil}, {[]wire.Envelope{env(1, 5)}, vec(0, 9, 2, 9), gaps(1, 1, 4)},
		{[]wire.Envelope{env(1, 1, 2, 3)}, nil, gaps(2, 1, 3)}, {[]wire.Envelope{env(1, 1, 2, 3)}, vec(2, 2), gaps(2, 3, 3)}, {[]wire.Envelope{env(1, 1, 2, 3)}, vec(2, 3), nil}, {[]wire.Envelope{env(1, 1, 2, 3)}, vec(2, 4), nil}, {[]wire.Envelope{env(1, 3, 0, 2, 2, 3)}, nil, gaps(0, 1, 2, 1, 1, 2, 2, 1, 3)}, {[]wire.Envelope{env(1, 3, 0, 2, 2, 3)}, vec(0, 1, 2, 3), gaps(0, 2, 2, 1, 1, 2)}, {[]wire.Envelope{env(1, 3, 0, 2, 2, 3)}, vec(0, 2, 1, 2, 2, 3), nil},
		{[]wire.Envelope{env(mostWriter, mostSeq, 0, mostSeq)}, nil, gaps(0, 1, mostSeq, mostWriter, 1, mostSeq-1)}, {[]wire.Envelope{env(mostWriter, mostSeq, 0, mostSeq)}, vec(0, mostSeq-1, mostWriter, mostSeq-2), gaps(0, mostSeq, mostSeq, mostWriter, mostSeq-1, mostSeq-1)},
		// Of several: gaps that overlap, meet, lie within one another, and apart.
		{[]wire.Envelope{env(1, 2), env(1, 3)}, nil, gaps(1, 1, 2)}, {[]wire.Envelope{env(1, 3), env(1, 7)}, vec(1, 1), gaps(1, 2, 6)}, {[]wire.Envelope{env(1, 3), env(1, 7)}, vec(1, 4), gaps(1, 5, 6)}, {[]wire.Envelope{env(1, 3), env(1, 7)}, vec(1, 6), nil}, {[]wire.Envelope{env(1, 1, 2, 3), env(3, 1, 2, 5)}, vec(2, 1), gaps(2, 2, 5)}, {[]wire.Envelope{env(1, 1, 2, 5), env(3, 1, 2, 3)}, vec(2, 1), gaps(2, 2, 5)}, {[]wire.Envelope{env(1, 1, 2, 3), env(3, 1, 2, 5)}, vec(2, 4), gaps(2, 5, 5)}, {[]wire.Envelope{env(1, 1, 2, 3), env(3, 1, 2, 3)}, nil, gaps(2, 1, 3)},
		{[]wire.Envelope{env(1, 2), env(3, 4)}, nil, gaps(1, 1, 1, 3, 1, 3)}, {[]wire.Envelope{env(1, 1, 2, 1), env(3, 1, 4, 1)}, nil, gaps(2, 1, 1, 4, 1, 1)}, {[]wire.Envelope{env(1, 1, 4, 1), env(3, 1, 2, 1)}, nil, gaps(2, 1, 1, 4, 1, 1)}, {[]wire.Envelope{env(1, 1, 2, 1), env(3, 1, 4, 1)}, vec(2, 1), gaps(4, 1, 1)},
		// What one needs of another one's replica: less and more than that one does; that one itself, which waits and isn't known.
		{[]wire.Envelope{env(1, 5), env(2, 1, 1, 2)}, nil, gaps(1, 1, 4)}, {[]wire.Envelope{env(1, 5), env(2, 1, 1, 8)}, nil, gaps(1, 1, 8)}, {[]wire.Envelope{env(1, 5), env(2, 1, 1, 5)}, vec(1, 4), gaps(1, 5, 5)}, {[]wire.Envelope{env(1, 1), env(1, 2)}, nil, gaps(1, 1, 1)}, {[]wire.Envelope{env(1, 1), env(2, 1, 1, 1), env(3, 1, 2, 1)}, nil, gaps(1, 1, 1, 2, 1, 1)},
		{[]wire.Envelope{env(1, 1, 2, 3), env(2, 3, 3, 4), env(3, 4, 4, 5)}, vec(1, 7, 2, 1, 3, 4, 4, 1), gaps(2, 2, 3, 4, 2, 5)},
		// Those that are ready, or past, want nothing that is known.
		{[]wire.Envelope{env(1, 1), env(2, 3, 1, 4)}, vec(1, 4, 2, 2), nil}, {[]wire.Envelope{env(1, 1), env(2, 3, 1, 4)}, vec(1, 4, 2, 3), nil},
	} {
		orders(slices.Clone(x.all), 0, func(l []wire.Envelope) {
			var h Buffer
			puts(t, &h, l...)
			wants(t, &h, x.have, x.want...)
			wants(t, &h, x.have, x.want...)
			drops(t, &h, h.knownOnes(), len(l))
			wants(t, &h, nil)
		})
		if t.Failed() {
			t.Fatal(i)
		}
	}
}

func TestMemoryHandedIn(t *testing.T) { // what is handed in is neither changed nor kept, its spare room neither
	made := func() wire.Envelope {
		e := wire.Envelope{Deps: append(vec(1, 2, 4, 3), vec(9, 9, 8, 8)...)[:2], Txn: txn.Txn{R: 3, Seq: 5, Clock: 9, User: 2}}
		e.Txn.Ops = []op.Op{ins(4, "ab"), del(append([]span.Span{sp(1, 1, 2), sp(2, 1, 1)}, sp(7, 7, 7))[:2]...), ins(6, "c"), undo(9)}[:3]
		return e
	}
	e, want := made(), made()
	have := append(vec(1, 1, 3, 4), vec(7, 7, 6, 6)...)[:2]
	wantHave := slices.Clone(have[:4])
	unchanged := func(what string) {
		t.Helper()
		if !slices.Equal(e.Deps[:4], want.Deps[:4]) || !slices.EqualFunc(e.Txn.Ops[:4], want.Txn.Ops[:4], sameOp) || !slices.Equal(have[:4], wantHave) {
			t.Fatalf("%s changed an argument: %v, %v, %v", what, e.Deps[:4], e.Txn.Ops[:4], have[:4])
		}
	}
	var h Buffer
	puts(t, &h, env(1, 1), e, env(3, 6), env(9, 9))
	unchanged("Put")
	refuses(t, &h, e, api.OK)
	h.Wants(have)
	unchanged("Wants")
	h.Take(have)
	h.Take(have)
	unchanged("Take")
	h.Drop(have)
	unchanged("Drop")
	// A change of what was handed in doesn't reach what waits.
	spoil(e)
	takes(t, &h, vec(1, 2, 3, 4, 4, 3), want)
	all := []wire.Envelope{made(), env(1, 1), env(3, 6), env(4, 2, 9, 9), env(9, 10)}
	h = Buffer{}
	puts(t, &h, all...)
	for _, e := range all {
		spoil(e)
	}
	clear(all)
	waits(t, &h, names(1, 1, 3, 5, 3, 6, 4, 2, 9, 10)...)
	wants(t, &h, vec(1, 1), gaps(1, 2, 2, 3, 1, 5, 4, 1, 3, 9, 1, 9)...)
	takes(t, &h, vec(1, 2, 3, 4, 4, 3), want)
	takes(t, &h, vec(3, 5), env(1, 1))
	takes(t, &h, vec(3, 5), env(3, 6))
	takes(t, &h, vec(4, 1, 9, 9), env(4, 2, 9, 9))
}

func TestMemoryTold(t *testing.T) { // what is told is new memory, and later calls don't change it
	all := func() []wire.Envelope {
		return []wire.Envelope{env(1, 1, 5, 5), {Deps: vec(2, 2, 4, 1), Txn: txn.Txn{R: 1, Seq: 2, Clock: 3, Ops: []op.Op{del(sp(1, 1, 1)), ins(5, "x")}}}, of(1, 3, "z", 2, 2), env(2, 3), env(7, 7, 6, 6)}
	}
	var h Buffer
	puts(t, &h, all()...)
	first, second := h.Names(), h.Names()
	gap, other := h.Wants(nil), h.Wants(nil)
	clear(first[:cap(first)])
	clear(gap[:cap(gap)])
	wantNames, wantGaps := names(1, 1, 1, 2, 1, 3, 2, 3, 7, 7), gaps(1, 1, 2, 2, 1, 2, 4, 1, 1, 5, 1, 5, 6, 1, 6, 7, 1, 6)
	waits(t, &h, wantNames...)
	wants(t, &h, nil, wantGaps...)
	taken, _ := h.Take(vec(1, 1, 2, 2, 4, 1))
	next, _ := h.Take(vec(1, 2, 2, 2))
	was, then := all()[1], all()[2]
	if !same(taken, was) || !same(next, then) {
		t.Fatalf("%v, %v", taken, next)
	}
	puts(t, &h, of(1, 2, "other", 9, 9), of(1, 4, "other"), env(0, 4), env(8, 8)) // into the room that there is now
	h.Drop(vec(1, 3))
	h.Take(vec(0, 3))
	if !same(taken, was) || !same(next, then) || !slices.Equal(second, wantNames) || !slices.Equal(other, wantGaps) {
		t.Errorf("later calls changed what was told: %v, %v, %v, %v", taken, next, second, other)
	}
	spoil(taken)
	if !same(next, then) {
		t.Errorf("%v", next)
	}
	spoil(next)
	waits(t, &h, names(1, 4, 2, 3, 7, 7, 8, 8)...)
	takes(t, &h, vec(2, 2), env(2, 3))
	takes(t, &h, vec(6, 6, 7, 6), env(7, 7, 6, 6))
	takes(t, &h, vec(1, 3), of(1, 4, "other"))
	// What was taken may wait again, and is taken as it was.
	e, _ := h.Take(vec(8, 7))
	puts(t, &h, e)
	spoil(e)
	takes(t, &h, vec(8, 7), env(8, 8))
}

func pick[T any](src *rand.Rand, l ...T) T { return l[src.Intn(len(l))] }

// someVector are entries of a few replicas.
func someVector(src *rand.Rand, replicas, most int) vector.Vector {
	v := vector.Vector{}
	for range src.Intn(replicas + 1) {
		v = v.With(uint16(src.Intn(replicas)), uint32(1+src.Intn(most)))
	}
	return v
}

// someEnvelope is one that fits, of small numbers.
func someEnvelope(src *rand.Rand, replicas, most int) wire.Envelope {
	e := of(src.Intn(replicas), 1+src.Intn(most), string(rune('a'+src.Intn(26))))
	if src.Intn(3) > 0 {
		e.Deps = someVector(src, replicas, most).With(e.Txn.R, 0)
	}
	e.Txn.Clock, e.Txn.User = uint64(1+src.Int63n(mostClock)), src.Intn(8)
	switch {
	case src.Intn(3) == 0:
		e.Txn.Ops = append(e.Txn.Ops, del(sp(uint16(src.Intn(9)), uint32(1+src.Intn(9)), 1+src.Intn(9))))
	case e.Txn.Seq > 1 && src.Intn(4) == 0:
		e.Txn.Ops = []op.Op{undo(uint32(1 + src.Intn(int(e.Txn.Seq)-1)))}
	}
	return e
}

// step does one call of any kind of both, and tells which it was, and of what answer.
func step(t *testing.T, src *rand.Rand, h *Buffer, p plain, replicas, most int) string {
	t.Helper()
	have := someVector(src, replicas, most)
	switch src.Intn(10) {
	default:
		e := someEnvelope(src, replicas, most)
		if e.Fit() != api.OK {
			t.Fatalf("%v doesn't fit", e)
		}
		ok, wrong := h.Put(e)
		if wantOK, want := p.put(e); ok != wantOK || wrong != want {
			t.Fatalf("Put of %v: %t, %d, want %t, %d", e, ok, wrong, wantOK, want)
		}
		spoil(e)
		return "put" + map[bool]string{true: "", false: map[api.Errno]string{api.OK: " again", api.ErrFull: ", full"}[wrong]}[ok]
	case 0, 1:
		e, ok := h.Take(have)
		if want, wantOK := p.take(have); ok != wantOK || !same(e, want) {
			t.Fatalf("Take of %v: %v, %t, want %v, %t", have, e, ok, want, wantOK)
		}
		spoil(e)
		return "take" + map[bool]string{true: "", false: " none"}[ok]
	case 2:
		if src.Intn(3) > 0 {
			have = have[:min(len(have), 1)]
		}
		got := h.Drop(have)
		if want := p.drop(have); got != want {
			t.Fatalf("Drop of %v: %d, want %d", have, got, want)
		}
		return "drop" + map[bool]string{true: "", false: " none"}[got > 0]
	case 3:
		got := h.Wants(have)
		if want := p.wants(have); !slices.Equal(got, want) {
			t.Fatalf("Wants of %v: %v, want %v", have, got, want)
		}
		return "wants" + map[bool]string{true: "", false: " none"}[len(got) > 0]
	}
}

func TestLongRuns(t *testing.T) { // P11.1, P11.2: calls of any kind, against the reference
	src := rand.New(rand.NewSource(11))
	seen := map[string]int{}
	for range 120 {
		var h Buffer
		p := plain{}
		replicas, most := pick(src, 1, 2, 4, 9), pick(src, 2, 5, 40)
		for range 400 {
			seen[step(t, src, &h, p, replicas, most)]++
			if h.Len() != len(p) || !slices.Equal(h.Names(), p.names()) {
				t.Fatalf("%d wait: %v, want %v", h.Len(), h.Names(), p.names())
			}
		}
		for _, name := range p.names() { // each one that waits is as it was put: of all others too much is known
			e, ok := h.Take(h.knownOnes().Join(p[name].Deps).With(name.R, name.Seq-1))
			if !ok || !same(e, p[name]) {
				t.Fatalf("Take of %v: %v, %t, want %v", name, e, ok, p[name])
			}
		}
	}
	for _, what := range []string{"put", "put again", "put, full", "take", "take none", "drop", "drop none", "wants", "wants none"} {
		if seen[what] < 100 {
			t.Errorf("%s: only %d times", what, seen[what])
		}
	}
}

func TestEndsAtAnyArguments(t *testing.T) { // P1
	wild := op.Op{Kind: math.MinInt, N: math.MaxUint32, Spans: []span.Span{sp(1, math.MaxUint32, math.MaxInt), {}}, Text: strings.Repeat("\xff", 1<<20)}
	lists := [][]op.Op{nil, {}, {{}}, {wild}, slices.Repeat([]op.Op{wild}, 1000), {undo(0), undo(math.MaxUint32)}}
	vectors := []vector.Vector{nil, {}, vec(0, 0), vec(5, 0, 5, 0, 5, 0), vec(9, math.MaxUint32, 1, math.MaxUint32), vec(3, 3, 2, 2, 1, 1, 0, 0), make(vector.Vector, 70000), vec(mostWriter, mostSeq+1, 0, 1)}
	var h Buffer
	for _, ops := range lists {
		for _, seq := range []uint32{0, 1, 2, mostSeq, mostSeq + 1, math.MaxUint32} {
			for i, deps := range vectors {
				h.Put(wire.Envelope{Deps: deps, Txn: txn.Txn{R: uint16(i), Seq: seq, Clock: math.MaxUint64, User: -1, Ops: ops}})
				have := vectors[int(seq%7+uint32(i))%len(vectors)]
				if i%3 == 0 {
					h.Wants(have)
				}
				h.Take(have)
				h.Len()
				h.Names()
			}
		}
		for _, have := range vectors {
			h.Drop(have)
		}
	}
}
