package causal

import (
	"bytes"
	"fmt"
	"math"
	"math/rand"
	"slices"
	"strings"
	"testing"

	"copyist/api"
	"copyist/check"
	"copyist/ident"
	"copyist/op"
	"copyist/pack"
	"copyist/span"
	"copyist/txn"
	"copyist/vector"
	"copyist/wire"
)

// The limits as numbers, as the document says them, not as the program takes them.
const (
	logRoom     = 65536
	holdRoom    = 64
	mostSeq     = 268435456
	mostFrame   = 1048576
	mostReplica = 65535
)

func sp(r uint16, n uint32, length int) span.Span {
	return span.Span{ID: ident.ID{R: r, N: n}, Len: length}
}

func ins(n uint32, s string) op.Op { return op.Op{Kind: op.Insert, N: n, Text: s} }

func del(l ...span.Span) op.Op { return op.Op{Kind: op.Delete, Spans: l} }

func undo(seq uint32) op.Op { return op.Op{Kind: op.Undo, Seq: seq} }

// vec is a list of entries: of each the replica, and how much of it.
func vec(numbers ...int) vector.Vector {
	var v vector.Vector
	for i := 0; i < len(numbers); i += 2 {
		v = append(v, vector.Entry{R: uint16(numbers[i]), Seq: uint32(numbers[i+1])})
	}
	return v
}

// gaps are of each the replica, from, and to.
func gaps(numbers ...int) []vector.Gap {
	var l []vector.Gap
	for i := 0; i < len(numbers); i += 3 {
		l = append(l, vector.Gap{R: uint16(numbers[i]), From: uint32(numbers[i+1]), To: uint32(numbers[i+2])})
	}
	return l
}

func name(r, seq int) txn.ID { return txn.ID{R: uint16(r), Seq: uint32(seq)} }

// names are of each the replica, and its number there.
func names(numbers ...int) []txn.ID {
	var l []txn.ID
	for i := 0; i < len(numbers); i += 2 {
		l = append(l, name(numbers[i], numbers[i+1]))
	}
	return l
}

// saying is the transaction of this name that inserts a text.
func saying(r, seq int, text string) txn.Txn {
	return txn.Txn{R: uint16(r), Seq: uint32(seq), Clock: uint64(seq), User: seq % 8, Ops: []op.Op{ins(7, text)}}
}

// of is one of which the text doesn't matter.
func of(r, seq int) txn.Txn { return saying(r, seq, "a") }

// bytesOf are an envelope's bytes.
func bytesOf(x txn.Txn, deps vector.Vector) []byte {
	b, e := wire.Encode(wire.Envelope{Deps: deps, Txn: x})
	if e != api.OK {
		panic(fmt.Sprint("no envelope: ", x, deps, e))
	}
	return b
}

// env are the bytes of the envelope of the transaction of this name, behind what the entries say.
func env(r, seq int, deps ...int) []byte { return bytesOf(of(r, seq), vec(deps...)) }

func sameOp(a, b op.Op) bool {
	return a.Kind == b.Kind && a.Anchor == b.Anchor && a.N == b.N && a.Text == b.Text && slices.Equal(a.Spans, b.Spans) && a.Seq == b.Seq
}

func sameTxn(a, b txn.Txn) bool {
	return a.R == b.R && a.Seq == b.Seq && a.Clock == b.Clock && a.User == b.User && slices.EqualFunc(a.Ops, b.Ops, sameOp)
}

// doer is somebody who does transactions: all that were given to it, in order, and what it tells of which.
type doer struct {
	given []txn.Txn
	tells map[txn.ID]api.Errno
}

func (d *doer) do(x txn.Txn) api.Errno {
	d.given = append(d.given, x)
	return d.tells[x.ID()]
}

func (d *doer) names() []txn.ID {
	var l []txn.ID
	for _, x := range d.given {
		l = append(l, x.ID())
	}
	return l
}

// refuser tells an error of each of these names.
func refuser(e api.Errno, l ...txn.ID) *doer {
	d := &doer{tells: map[txn.ID]api.Errno{}}
	for _, id := range l {
		d.tells[id] = e
	}
	return d
}

// spoil changes all memory that bytes lead to, spare room too.
func spoil(b []byte) {
	b = b[:cap(b)]
	for i := range b {
		b[i] ^= 0xff
	}
}

// roomy are the same bytes, with spare room behind that isn't nought.
func roomy(b []byte) []byte { return append(slices.Clone(b), "spare room"...)[:len(b)] }

// intact looks at bytes that were made roomy, and changes them: nobody else may need them any more.
func intact(t *testing.T, handed, was []byte) {
	t.Helper()
	if all := string(handed[:len(was)+10]); all != string(was)+"spare room" {
		t.Fatalf("what was handed in was changed: %x, was %x", all, was)
	}
	spoil(handed)
}

// asked is what an endpoint tells of itself, but for the bytes that it keeps, and what waits; what was told is changed then.
func asked(p *Endpoint) string {
	n, e := p.Next()
	have, wants := p.Have(), p.Wants()
	s := fmt.Sprintf("%s, %d wait: %v, kept %d, next %d %d, wants %v", have.Show(), p.Held(), p.waiting.Names(), p.Kept(), n, e, wants)
	clear(have[:cap(have)])
	clear(wants[:cap(wants)])
	return s
}

// told is all of it.
func told(p *Endpoint) string {
	all := p.All()
	s := asked(p) + fmt.Sprintf(", all %x", all)
	for _, b := range all {
		spoil(b)
	}
	clear(all[:cap(all)])
	return s
}

// receives looks at what is told when bytes come, and at what was given to be done.
func receives(t *testing.T, p *Endpoint, b []byte, d *doer, n int, wrong api.Errno, given ...txn.ID) {
	t.Helper()
	d.given = nil
	handed := roomy(b)
	got, e := p.Receive(handed, d.do)
	if got != n || e != wrong || !slices.Equal(d.names(), given) {
		t.Errorf("Receive: %d, %d, given %v, want %d, %d, %v", got, e, d.names(), n, wrong, given)
	}
	intact(t, handed, b)
}

// rejects looks at bytes that come, and change nothing.
func rejects(t *testing.T, p *Endpoint, b []byte, wrong api.Errno) {
	t.Helper()
	before := told(p)
	receives(t, p, b, &doer{}, 0, wrong)
	if after := told(p); after != before {
		t.Errorf("it was changed: %s, was %s", after, before)
	}
}

// loads looks at what Load tells, and at what was given to be done.
func loads(t *testing.T, p *Endpoint, b []byte, d *doer, wrong api.Errno, given ...txn.ID) {
	t.Helper()
	d.given = nil
	before, handed := told(p), roomy(b)
	if e := p.Load(handed, d.do); e != wrong || !slices.Equal(d.names(), given) {
		t.Errorf("Load: %d, given %v, want %d, %v", e, d.names(), wrong, given)
	}
	intact(t, handed, b)
	if after := told(p); (after != before) != (wrong == api.OK) {
		t.Errorf("behind %d: %s, was %s", wrong, after, before)
	}
}

// sends looks at a transaction that is sent, behind these of others, and tells its bytes.
func sends(t *testing.T, p *Endpoint, x txn.Txn, deps ...int) []byte {
	t.Helper()
	b, e := p.Send(x)
	if want := bytesOf(x, vec(deps...)); e != api.OK || !bytes.Equal(b, want) {
		t.Fatalf("Send of %v: %x, %d, want %x", x, b, e, want)
	}
	return b
}

// refusesToSend looks at one that isn't sent, and changes nothing.
func refusesToSend(t *testing.T, p *Endpoint, x txn.Txn, wrong api.Errno) {
	t.Helper()
	before := told(p)
	if b, e := p.Send(x); len(b) > 0 || e != wrong {
		t.Errorf("Send of %v: %x, %d, want %d", x.ID(), b, e, wrong)
	}
	if after := told(p); after != before {
		t.Errorf("it was changed: %s, was %s", after, before)
	}
}

// nexts looks at Next.
func nexts(t *testing.T, p *Endpoint, n uint32, wrong api.Errno) {
	t.Helper()
	if got, e := p.Next(); got != n || e != wrong {
		t.Errorf("Next: %d, %d, want %d, %d", got, e, n, wrong)
	}
}

// stands looks at how much is known, and which ones wait.
func stands(t *testing.T, p *Endpoint, have vector.Vector, held ...txn.ID) {
	t.Helper()
	got := p.Have()
	if !slices.Equal(got, have) || p.Kept() != have.Sum() || p.Held() != len(held) || !slices.Equal(p.waiting.Names(), held) {
		t.Errorf("known %s, kept %d, %d wait: %v, want %s, %v", got.Show(), p.Kept(), p.Held(), p.waiting.Names(), have.Show(), held)
	}
}

// wants looks at Wants.
func wants(t *testing.T, p *Endpoint, want ...vector.Gap) {
	t.Helper()
	if got := p.Wants(); !slices.Equal(got, want) {
		t.Errorf("Wants: %v, want %v", got, want)
	}
}

func sameLists(a, b [][]byte) bool { return slices.EqualFunc(a, b, bytes.Equal) }

// keeps looks at the bytes of all that is known, in their order.
func keeps(t *testing.T, p *Endpoint, want ...[]byte) {
	t.Helper()
	if got := p.All(); !sameLists(got, want) || p.Kept() != len(want) {
		t.Errorf("All: %d, %x, want %x", p.Kept(), got, want)
	}
}

func TestChapterExample(t *testing.T) { // P13.2
	p, q := New(1), New(2)
	first := sends(t, p, of(1, 1))
	second := sends(t, p, of(1, 2))
	d := &doer{}
	receives(t, q, second, d, 0, api.OK)
	stands(t, q, nil, name(1, 2))
	wants(t, q, gaps(1, 1, 1)...)
	receives(t, q, first, d, 2, api.OK, names(1, 1, 1, 2)...)
	stands(t, q, vec(1, 2))
	wants(t, q)
	keeps(t, q, first, second)
}

func TestNew(t *testing.T) { // P13.1, P13.2, P13.3: of any replica; each call of one that knows nothing, as the first one and again
	for _, r := range []int{0, 1, 2, 127, 128, 255, 256, 32768, mostReplica - 1, mostReplica} {
		other := (r + 1) % (mostReplica + 1)
		for i, first := range []func(p *Endpoint){
			func(p *Endpoint) { stands(t, p, nil) },
			func(p *Endpoint) { nexts(t, p, 1, api.OK) },
			func(p *Endpoint) { wants(t, p) },
			func(p *Endpoint) { keeps(t, p) },
			func(p *Endpoint) {
				for _, x := range []int{r, other} {
					if l := p.Reply(vector.Gap{R: uint16(x), From: 0, To: 9}, 9); len(l) > 0 {
						t.Error(l)
					}
				}
			},
			func(p *Endpoint) { refusesToSend(t, p, of(other, 1), api.ErrForm) },
			func(p *Endpoint) { refusesToSend(t, p, of(r, 2), api.ErrForm) },
			func(p *Endpoint) { refusesToSend(t, p, txn.Txn{R: uint16(r), Seq: 1, Clock: 1}, api.ErrForm) },
			func(p *Endpoint) { rejects(t, p, nil, api.ErrShort) },
			func(p *Endpoint) { rejects(t, p, env(r, 1), api.ErrOwn) },
			func(p *Endpoint) { loads(t, p, nil, &doer{}, api.ErrShort) },
			func(p *Endpoint) { loads(t, p, env(r, 2), &doer{}, api.ErrRef) },
			func(p *Endpoint) { loads(t, p, env(other, 2), &doer{}, api.ErrRef) },
		} {
			p, beside := New(uint16(r)), New(uint16(r))
			first(p)
			first(p)
			stands(t, p, nil)
			nexts(t, p, 1, api.OK)
			wants(t, p)
			keeps(t, p)
			b := sends(t, p, of(r, 1))
			stands(t, p, vec(r, 1))
			keeps(t, p, b)
			stands(t, beside, nil) // what one knows, another one doesn't
			receives(t, beside, env(other, 2), &doer{}, 0, api.OK)
			stands(t, beside, nil, name(other, 2))
			stands(t, p, vec(r, 1))
			if t.Failed() {
				t.Fatal(r, i)
			}
		}
	}
}

func TestSend(t *testing.T) { // P13.1: behind each call Have, Held, Kept and Next; what Deps are sent
	p, d := New(5), &doer{}
	for i, x := range []struct {
		comes []byte // ahead of it
		sent  txn.Txn
		deps  []int
		have  vector.Vector
	}{
		{nil, of(5, 1), nil, vec(5, 1)},
		{nil, saying(5, 2, "two"), nil, vec(5, 2)}, // its own aren't among Deps
		{env(7, 1), saying(5, 3, "three"), []int{7, 1}, vec(5, 3, 7, 1)},
		{env(2, 1), of(5, 4), []int{2, 1, 7, 1}, vec(2, 1, 5, 4, 7, 1)},
		{env(2, 2, 5, 4), of(5, 5), []int{2, 2, 7, 1}, vec(2, 2, 5, 5, 7, 1)},
		{env(mostReplica, 1, 2, 2), of(5, 6), []int{2, 2, 7, 1, mostReplica, 1}, vec(2, 2, 5, 6, 7, 1, mostReplica, 1)},
		{env(0, 1), of(5, 7), []int{0, 1, 2, 2, 7, 1, mostReplica, 1}, vec(0, 1, 2, 2, 5, 7, 7, 1, mostReplica, 1)},
		{nil, txn.Txn{R: 5, Seq: 8, Clock: 1, Ops: []op.Op{undo(7)}}, []int{0, 1, 2, 2, 7, 1, mostReplica, 1}, vec(0, 1, 2, 2, 5, 8, 7, 1, mostReplica, 1)},
	} {
		if x.comes != nil {
			e, _ := wire.Decode(x.comes)
			receives(t, p, x.comes, d, 1, api.OK, e.Txn.ID())
		}
		nexts(t, p, x.sent.Seq, api.OK)
		before := p.All()
		b := sends(t, p, x.sent, x.deps...)
		stands(t, p, x.have)
		nexts(t, p, x.sent.Seq+1, api.OK)
		keeps(t, p, append(before, b)...)
		rejects(t, p, b, api.OK) // it is known
		if t.Failed() {
			t.Fatal(i)
		}
	}
}

func TestSendWhereOthersWait(t *testing.T) { // P13.1: what waits isn't among Deps, and goes on waiting
	p, d := New(1), &doer{}
	receives(t, p, env(2, 2), d, 0, api.OK)
	receives(t, p, env(3, 1, 2, 2), d, 0, api.OK)
	sends(t, p, of(1, 1))
	stands(t, p, vec(1, 1), names(2, 2, 3, 1)...)
	receives(t, p, env(4, 1, 1, 2), d, 0, api.OK) // one that needs what is still to be sent
	sends(t, p, of(1, 2))
	stands(t, p, vec(1, 2), names(2, 2, 3, 1, 4, 1)...)
	receives(t, p, env(2, 1), d, 4, api.OK, names(2, 1, 2, 2, 3, 1, 4, 1)...)
	stands(t, p, vec(1, 2, 2, 2, 3, 1, 4, 1))
	sends(t, p, of(1, 3), 2, 2, 3, 1, 4, 1)
}

// wrongTxns are what Encode refuses, of the replica's transaction of that number.
func wrongTxns(r, seq int) []struct {
	x    txn.Txn
	want api.Errno
} {
	of := func(clock uint64, user int, ops ...op.Op) txn.Txn {
		return txn.Txn{R: uint16(r), Seq: uint32(seq), Clock: clock, User: user, Ops: ops}
	}
	return []struct {
		x    txn.Txn
		want api.Errno
	}{
		{of(0, 0, ins(1, "a")), api.ErrForm}, {of(api.MaxClock+1, 0, ins(1, "a")), api.ErrForm}, {of(1, -1, ins(1, "a")), api.ErrForm}, {of(1, 8, ins(1, "a")), api.ErrForm}, {of(1, 0), api.ErrForm},
		{of(1, 0, slices.Repeat([]op.Op{del(sp(1, 1, 1))}, 17)...), api.ErrMany}, {of(1, 0, ins(1, "")), api.ErrForm}, {of(1, 0, ins(1, "\x01")), api.ErrForm}, {of(1, 0, ins(1, strings.Repeat("a", 65))), api.ErrLong}, {of(1, 0, op.Op{}), api.ErrForm}, {of(1, 0, op.Op{Kind: 6}), api.ErrForm},
		{of(1, 0, del()), api.ErrForm}, {of(1, 0, del(sp(1, 1, 1), sp(1, 1, 1))), api.ErrTwice}, {of(1, 0, del(sp(1, 1, 1024), sp(2, 1, 1))), api.ErrLong}, {of(1, 0, ins(1, "a"), ins(3, "a")), api.ErrForm}, {of(1, 0, undo(uint32(seq))), api.ErrForm}, {of(1, 0, ins(1, "a"), undo(1)), api.ErrForm},
	}
}

func TestSendRefuses(t *testing.T) { // P13.1: in the order of its errors, and nothing changes
	p, d := New(5), &doer{}
	for seq := 1; seq < 4; seq++ {
		for _, x := range []txn.Txn{of(4, seq), of(6, seq), of(0, seq), of(mostReplica, seq), of(5+256, seq), of(5, seq-1), of(5, seq+1), of(5, seq+256), of(5, 0), of(5, mostSeq), of(5, mostSeq+1), of(5, math.MaxUint32), of(2, 2), {}} {
			refusesToSend(t, p, x, api.ErrForm)
			x.Ops = slices.Repeat(x.Ops, 17) // of an unlike replica, or number, nothing else is told
			refusesToSend(t, p, x, api.ErrForm)
			x.Ops = []op.Op{ins(1, strings.Repeat("a", 65))}
			refusesToSend(t, p, x, api.ErrForm)
		}
		for _, x := range wrongTxns(5, seq) {
			refusesToSend(t, p, x.x, x.want)
		}
		stands(t, p, p.Have(), p.waiting.Names()...)
		nexts(t, p, uint32(seq), api.OK)
		deps := [][]int{nil, {2, 1}, {2, 1}}[seq-1]
		sends(t, p, of(5, seq), deps...)
		if seq == 1 {
			receives(t, p, env(2, 1), d, 1, api.OK, name(2, 1))
			receives(t, p, env(2, 3), d, 0, api.OK)
		}
		refusesToSend(t, p, of(5, seq), api.ErrForm) // once more
	}
}

func TestNoMoreNumbers(t *testing.T) { // P13.1: no call leads there, as the log has less room; so what is known is set
	p := New(5)
	p.known = vec(2, mostSeq, 5, mostSeq-1, 9, mostSeq)
	nexts(t, p, mostSeq, api.OK)
	sends(t, p, of(5, mostSeq), 2, mostSeq, 9, mostSeq)
	for _, x := range []txn.Txn{of(5, mostSeq), of(5, mostSeq+1), of(5, 1), of(6, 1), {}} {
		nexts(t, p, 0, api.ErrOverflow)
		refusesToSend(t, p, x, api.ErrOverflow)
	}
	fill(t, p, 0)
	p.known = p.known.With(5, mostSeq)
	nexts(t, p, 0, api.ErrOverflow) // ahead of ErrFull
	if _, e := p.Send(of(5, mostSeq)); e != api.ErrOverflow {
		t.Error(e)
	}
	p.known = p.known.With(5, mostSeq-1)
	nexts(t, p, 0, api.ErrFull)
}

// fill lets an endpoint of another replica know so much of the replica 77 that its log has room for so many more.
func fill(t *testing.T, p *Endpoint, left int) {
	t.Helper()
	d := &doer{}
	for seq := int(p.Have().Get(77)) + 1; p.Kept() < logRoom-left; seq++ {
		if n, e := p.Receive(env(77, seq), d.do); n != 1 || e != api.OK || seq > logRoom {
			t.Fatal(seq, n, e)
		}
	}
}

// unchanged looks at the numbers of one that knows too much for all of it to be told at each call.
func unchanged(t *testing.T, p *Endpoint, have vector.Vector, call func()) {
	t.Helper()
	held := p.waiting.Names()
	call()
	stands(t, p, have, held...)
}

func TestSendWhereThereIsNoRoom(t *testing.T) { // P13.1
	p := New(5)
	fill(t, p, 1)
	nexts(t, p, 1, api.OK)
	sends(t, p, of(5, 1), 77, logRoom-1)
	have := vec(5, 1, 77, logRoom-1)
	for _, x := range []txn.Txn{of(5, 2), of(5, 1), of(5, 3), of(6, 2), {}, wrongTxns(5, 2)[5].x} {
		unchanged(t, p, have, func() {
			nexts(t, p, 0, api.ErrFull)
			if b, e := p.Send(x); len(b) > 0 || e != api.ErrFull { // ahead of all others
				t.Errorf("Send of %v: %x, %d", x.ID(), b, e)
			}
		})
	}
	if all := p.All(); len(all) != logRoom || !bytes.Equal(all[logRoom-1], bytesOf(of(5, 1), vec(77, logRoom-1))) {
		t.Errorf("%d are kept", len(all))
	}
}

func TestReceiveWhereThereIsNoRoom(t *testing.T) { // P13.2: at the first one
	p, d := New(5), &doer{}
	sends(t, p, of(5, 1))
	receives(t, p, env(3, 2), d, 0, api.OK)
	fill(t, p, 0)
	have := vec(5, 1, 77, logRoom-1)
	for _, x := range []struct {
		b     []byte
		wrong api.Errno
	}{
		{env(2, 1), api.ErrFull}, {env(3, 1), api.ErrFull}, {env(77, logRoom), api.ErrFull}, {env(mostReplica, 1, 5, 1, 77, 9), api.ErrFull}, // ready
		{env(5, 1), api.OK}, {env(77, 1), api.OK}, {env(77, logRoom-1), api.OK}, // past
		{env(5, 2), api.ErrOwn}, {env(5, 7), api.ErrOwn}, {env(3, 2), api.OK}, {nil, api.ErrShort}, {env(2, 1)[:20], api.ErrFrame},
	} {
		unchanged(t, p, have, func() { receives(t, p, x.b, d, 0, x.wrong) })
	}
	receives(t, p, env(2, 2), d, 0, api.OK) // room for one that waits is something else
	stands(t, p, have, names(2, 2, 3, 2)...)
	wants(t, p, gaps(2, 1, 1, 3, 1, 1)...)
}

func TestReceiveWhereThereIsLittleRoom(t *testing.T) { // P13.2: at a later one
	waiting := [][]byte{env(2, 1, 1, 1), env(3, 1, 1, 1), env(4, 1, 3, 1), env(6, 1, 1, 1)}
	order := names(1, 1, 2, 1, 3, 1, 4, 1, 6, 1)
	p := New(5)
	for left := 5; left > 0; left-- {
		fill(t, p, left)
		q, d := again(t, p), refuser(api.ErrForm, name(6, 1))
		for _, b := range waiting {
			receives(t, q, b, d, 0, api.OK)
		}
		if left == 5 {
			receives(t, q, env(1, 1), d, 4, api.ErrForm, order...)
			stands(t, q, vec(1, 1, 2, 1, 3, 1, 4, 1, 77, logRoom-5))
			continue
		}
		receives(t, q, env(1, 1), d, left, api.ErrFull, order[:left]...)
		have := vec(77, logRoom-left)
		for _, id := range order[:left] {
			have = have.With(id.R, id.Seq)
		}
		stands(t, q, have, order[left+1:]...)
		rejects(t, q, waiting[left-1], api.ErrFull) // it neither is known nor waits
		if t.Failed() {
			t.Fatal(left)
		}
	}
}

// again is a fresh endpoint, of the same replica, that knows what another one does.
func again(t *testing.T, p *Endpoint) *Endpoint {
	t.Helper()
	q, d := New(p.replica), &doer{}
	for _, b := range p.All() {
		if e := q.Load(b, d.do); e != api.OK {
			t.Fatal(e)
		}
	}
	return q
}

// numbers are written as an envelope has them, whatever they are: with the head that is right for them, and rightly sealed.
func numbers(l ...uint64) []byte {
	var w pack.Writer
	for _, n := range l {
		w.Num(n)
	}
	size := 11 + w.Len()
	return check.Seal(append([]byte{0x43, 0x50, 1, byte(size >> 24), byte(size >> 16), byte(size >> 8), byte(size)}, w.Bytes()...))
}

// wrongBytes are no envelope, with their errors.
func wrongBytes() []struct {
	b    []byte
	want api.Errno
} {
	good := env(2, 1)
	far, other, turned := slices.Clone(good), slices.Clone(good), slices.Clone(good)
	far[6]++
	other[2]++
	turned[12] ^= 4
	return []struct {
		b    []byte
		want api.Errno
	}{
		{nil, api.ErrShort}, {[]byte{}, api.ErrShort}, {good[:1], api.ErrShort}, {good[:10], api.ErrShort}, {make([]byte, 10), api.ErrShort},
		{make([]byte, mostFrame+1), api.ErrLong}, {append(slices.Clone(good), make([]byte, mostFrame)...), api.ErrLong},
		{good[:11], api.ErrFrame}, {good[:len(good)-1], api.ErrFrame}, {append(slices.Clone(good), 0), api.ErrFrame}, {make([]byte, 11), api.ErrFrame}, {make([]byte, mostFrame), api.ErrFrame}, {far, api.ErrFrame}, {other, api.ErrFrame}, {good[1:], api.ErrFrame},
		{turned, api.ErrSum}, {append(slices.Clone(good[:len(good)-4]), 0, 0, 0, 0), api.ErrSum},
		{numbers(), api.ErrShort}, {numbers(0, 2, 1, 1, 0, 1, 1, 0), api.ErrShort}, {numbers(65537), api.ErrRange}, {numbers(0, 65536, 1, 1, 0, 1, 4, 1), api.ErrRange}, {numbers(0, 2, mostSeq+1, 1, 0, 1, 4, 1), api.ErrRange}, {numbers(0, 2, 1, 1, 0, 1, 5, 1, 0), api.ErrLong},
		{numbers(0, 2, 1, 1, 0, 0), api.ErrForm}, {numbers(0, 2, 0, 1, 0, 1, 5, 1), api.ErrForm}, {numbers(1, 2, 1, 2, 1, 1, 0, 1, 2, 1, 1, 1, 1), api.ErrForm}, {numbers(1, 3, 0, 2, 1, 1, 0, 1, 2, 1, 1, 1, 1), api.ErrForm}, {numbers(2, 4, 1, 3, 1, 2, 1, 1, 0, 1, 2, 1, 1, 1, 1), api.ErrForm}, {numbers(0, 2, 2, 1, 0, 1, 2, 2, 1, 1, 1, 1, 1, 1), api.ErrTwice},
	}
}

func TestWrongBytes(t *testing.T) { // P13.2, P13.3: layer 10's error of Decode, ahead of all others; nothing changes
	for _, p := range []*Endpoint{New(2), New(1), standing(t)} { // of the first one the spoilt ones are its own
		for i, x := range wrongBytes() {
			if _, e := wire.Decode(x.b); e != x.want {
				t.Fatal(i, e)
			}
			rejects(t, p, x.b, x.want)
			if p.Held() == 0 {
				loads(t, p, x.b, &doer{}, x.want)
			}
			if t.Failed() {
				t.Fatal(i, p.replica)
			}
		}
	}
}

// standing is an endpoint of replica 3 that knows some, while others wait.
func standing(t *testing.T) *Endpoint {
	t.Helper()
	p, d := New(3), &doer{}
	sends(t, p, of(3, 1))
	receives(t, p, env(1, 1), d, 1, api.OK, name(1, 1))
	receives(t, p, env(1, 2, 3, 1), d, 1, api.OK, name(1, 2))
	sends(t, p, of(3, 2), 1, 2)
	receives(t, p, env(1, 4), d, 0, api.OK)
	receives(t, p, env(2, 2), d, 0, api.OK)
	receives(t, p, env(4, 1, 1, 3, 3, 2), d, 0, api.OK)
	stands(t, p, vec(1, 2, 3, 2), names(1, 4, 2, 2, 4, 1)...)
	wants(t, p, gaps(1, 3, 3, 2, 1, 1)...)
	return p
}

func TestSpoiltBytes(t *testing.T) { // P13.2: turned within 32 bits, cut off, with others behind
	src := rand.New(rand.NewSource(131))
	p := standing(t)
	good := [][]byte{env(2, 1), env(1, 3), env(1, 1), env(3, 1), env(3, 3), env(4, 2, 1, 9), env(1, 4)}
	before := told(p)
	for _, b := range good {
		for at := range len(b) * 8 {
			turned := turn(b, at, 1)
			_, want := wire.Decode(turned)
			receives(t, p, turned, &doer{}, 0, want)
			if want == api.OK {
				t.Fatalf("%x is an envelope", turned)
			}
		}
		for range 300 {
			spoilt := harm(src, b)
			_, want := wire.Decode(spoilt)
			receives(t, p, spoilt, &doer{}, 0, want)
			if want == api.OK {
				t.Fatalf("%x is an envelope", spoilt)
			}
		}
		for n := range b {
			_, want := wire.Decode(b[:n])
			receives(t, p, b[:n], &doer{}, 0, want)
		}
	}
	if after := told(p); after != before {
		t.Errorf("it was changed: %s, was %s", after, before)
	}
	receives(t, p, good[0], &doer{}, 2, api.OK, names(2, 1, 2, 2)...)
}

// turn are the same bytes, of which some bits are turned, from a bit on.
func turn(b []byte, at int, pattern uint32) []byte {
	out := slices.Clone(b)
	for i := range 32 {
		if k := at + i; pattern>>i&1 == 1 && k < len(out)*8 {
			out[k/8] ^= 128 >> (k % 8)
		}
	}
	return out
}

// harm are bytes that were an envelope's, and aren't any more.
func harm(src *rand.Rand, b []byte) []byte {
	switch src.Intn(4) {
	case 0:
		return slices.Clone(b[:src.Intn(len(b))])
	case 1:
		more := make([]byte, 1+src.Intn(9))
		src.Read(more)
		return append(slices.Clone(b), more...)
	}
	return turn(b, src.Intn(len(b)*8), src.Uint32()|1)
}

func TestReceivePast(t *testing.T) { // P13.2: 0 and OK, nothing is given to be done, nothing changes
	p := standing(t)
	for _, b := range [][]byte{env(1, 1), env(1, 2, 3, 1), env(1, 2), env(1, 1, 9, 9), bytesOf(saying(1, 2, "other"), nil), env(3, 1), env(3, 2, 1, 2), env(3, 2), env(3, 1, 9, 9), bytesOf(saying(3, 1, "other"), nil)} {
		rejects(t, p, b, api.OK)
	}
	keeps(t, p, env(3, 1), env(1, 1), env(1, 2, 3, 1), env(3, 2, 1, 2))
}

func TestReceiveOwn(t *testing.T) { // P13.2: of those that aren't past, ready or not
	p := standing(t)
	for _, b := range [][]byte{env(3, 3), env(3, 3, 1, 2), env(3, 3, 1, 3), env(3, 3, 9, 9), env(3, 4), env(3, mostSeq), bytesOf(saying(3, 3, "other"), nil)} {
		rejects(t, p, b, api.ErrOwn)
	}
	for i := range holdRoom - 3 {
		receives(t, p, env(9, i+2), &doer{}, 0, api.OK)
	}
	rejects(t, p, env(3, 3), api.ErrOwn) // where there is no room
	rejects(t, p, env(3, 4), api.ErrOwn)
}

func TestReceiveReady(t *testing.T) { // P13.2: it is given as it was sent, and known
	p, q, d := New(8), New(2), &doer{}
	sent := []txn.Txn{
		saying(2, 1, "one"), saying(2, 2, "\nand ~two"), {R: 2, Seq: 3, Clock: api.MaxClock, User: 7, Ops: []op.Op{undo(2)}},
		{R: 2, Seq: 4, Clock: 300, Ops: []op.Op{del(sp(1, 1, 3), sp(9, 5, 1)), ins(4, "ab"), {Kind: op.Move, Anchor: ident.ID{R: 2, N: 4}, N: 6, Spans: []span.Span{sp(2, 4, 2)}}}},
		{R: 2, Seq: 5, Clock: 1, Ops: []op.Op{{Kind: op.Redo, Seq: 2}}},
	}
	var all [][]byte
	for i, x := range sent {
		b := sends(t, q, x)
		all = append(all, b)
		receives(t, p, b, d, 1, api.OK, x.ID())
		if !sameTxn(d.given[0], x) {
			t.Errorf("given: %v, want %v", d.given[0], x)
		}
		stands(t, p, vec(2, i+1))
		nexts(t, p, 1, api.OK)
		keeps(t, p, all...)
	}
	for _, x := range []struct {
		b    []byte
		have vector.Vector
	}{
		{env(0, 1), vec(0, 1, 2, 5)}, {env(mostReplica, 1, 0, 1), vec(0, 1, 2, 5, mostReplica, 1)}, {env(4, 1, 0, 1, 2, 5, mostReplica, 1), vec(0, 1, 2, 5, 4, 1, mostReplica, 1)}, {env(4, 2, 2, 3), vec(0, 1, 2, 5, 4, 2, mostReplica, 1)}, {env(2, 6, 4, 2), vec(0, 1, 2, 6, 4, 2, mostReplica, 1)},
	} {
		e, _ := wire.Decode(x.b)
		receives(t, p, x.b, d, 1, api.OK, e.Txn.ID())
		stands(t, p, x.have)
		all = append(all, x.b)
		keeps(t, p, all...)
		rejects(t, p, x.b, api.OK)
	}
}

func TestReceiveWaits(t *testing.T) { // P13.2: what isn't ready waits, as long as there is room
	p, d := New(3), &doer{}
	for i, x := range []struct {
		b    []byte
		held []txn.ID
		want []vector.Gap
	}{
		{env(1, 2), names(1, 2), gaps(1, 1, 1)},
		{env(2, 1, 1, 1), names(1, 2, 2, 1), gaps(1, 1, 1)},
		{env(1, 2), names(1, 2, 2, 1), gaps(1, 1, 1)},                                          // again
		{env(1, 2, 9, 9), names(1, 2, 2, 1), gaps(1, 1, 1)},                                    // another one of its name: the first one stays
		{env(0, 1, mostReplica, 7), names(0, 1, 1, 2, 2, 1), gaps(1, 1, 1, mostReplica, 1, 7)}, // ready but for what it needs of others
		{env(4, 1, 3, 2), names(0, 1, 1, 2, 2, 1, 4, 1), gaps(1, 1, 1, 3, 1, 2, mostReplica, 1, 7)},
		{env(2, mostSeq), names(0, 1, 1, 2, 2, 1, 2, mostSeq, 4, 1), gaps(1, 1, 1, 2, 1, mostSeq-1, 3, 1, 2, mostReplica, 1, 7)},
	} {
		receives(t, p, x.b, d, 0, api.OK)
		stands(t, p, nil, x.held...)
		wants(t, p, x.want...)
		nexts(t, p, 1, api.OK)
		keeps(t, p)
		if t.Failed() {
			t.Fatal(i)
		}
	}
	receives(t, p, env(1, 1), d, 3, api.OK, names(1, 1, 1, 2, 2, 1)...)
	keeps(t, p, env(1, 1), env(1, 2), env(2, 1, 1, 1)) // of 1:2 the first one that came
}

func TestReceiveWhereTheBufferIsFull(t *testing.T) { // P13.2
	p, d := New(3), &doer{}
	var held []txn.ID
	for i := range holdRoom {
		receives(t, p, env(1, i+2), d, 0, api.OK)
		held = append(held, name(1, i+2))
		stands(t, p, nil, held...)
	}
	for _, b := range [][]byte{env(1, holdRoom+2), env(0, 2), env(2, 1, 1, 1), env(mostReplica, mostSeq)} {
		rejects(t, p, b, api.ErrFull)
	}
	for _, b := range [][]byte{env(1, 2), env(1, 9, 9, 9), env(1, holdRoom+1)} { // of a name that waits
		rejects(t, p, b, api.OK)
	}
	receives(t, p, env(2, 1), d, 1, api.OK, name(2, 1)) // what is ready needs no room there
	stands(t, p, vec(2, 1), held...)
	rejects(t, p, env(2, 3), api.ErrFull)
	receives(t, p, env(1, 1), d, holdRoom+1, api.OK, append(names(1, 1), held...)...)
	stands(t, p, vec(1, holdRoom+1, 2, 1))
	receives(t, p, env(2, 3), d, 0, api.OK)
}

// orders calls a function with all orders of a list.
func orders[T any](l []T, at int, f func([]T)) {
	if at == len(l) {
		f(l)
		return
	}
	for i := at; i < len(l); i++ {
		l[at], l[i] = l[i], l[at]
		orders(l, at+1, f)
		l[at], l[i] = l[i], l[at]
	}
}

func TestSeveralGo(t *testing.T) { // P13.2: in the buffer's order, looked at anew behind each one
	for i, x := range []struct {
		waiting [][]byte
		comes   []byte
		given   []txn.ID
		left    []txn.ID
	}{
		{[][]byte{env(1, 2), env(1, 3), env(1, 4)}, env(1, 1), names(1, 1, 1, 2, 1, 3, 1, 4), nil},
		{[][]byte{env(1, 2), env(1, 4), env(2, 2)}, env(1, 1), names(1, 1, 1, 2), names(1, 4, 2, 2)},
		{[][]byte{env(4, 1, 3, 1), env(2, 1, 3, 1), env(0, 1, 3, 1), env(mostReplica, 1, 3, 1)}, env(3, 1), names(3, 1, 0, 1, 2, 1, 4, 1, mostReplica, 1), nil},
		{[][]byte{env(3, 1, 1, 1), env(2, 1, 3, 1), env(2, 2), env(4, 1, 1, 1)}, env(1, 1), names(1, 1, 3, 1, 2, 1, 2, 2, 4, 1), nil}, // the third one lets go what stands ahead of it
		{[][]byte{env(1, 1, 2, 1), env(2, 1, 3, 1), env(3, 1, 4, 1), env(4, 1, 6, 1)}, env(6, 1), names(6, 1, 4, 1, 3, 1, 2, 1, 1, 1), nil},
		{[][]byte{env(0, 1, 1, 1, 2, 1), env(0, 2), env(2, 1, 1, 1), env(0, 3, 2, 2)}, env(1, 1), names(1, 1, 2, 1, 0, 1, 0, 2), names(0, 3)},
		{[][]byte{env(2, 2), env(4, 2, 2, 9), env(6, 1, 4, 1)}, env(1, 1), names(1, 1), names(2, 2, 4, 2, 6, 1)}, // none
	} {
		orders(slices.Clone(x.waiting), 0, func(l [][]byte) {
			p, d := New(5), &doer{}
			for _, b := range l {
				receives(t, p, b, d, 0, api.OK)
			}
			receives(t, p, x.comes, d, len(x.given), api.OK, x.given...)
			have := vector.Vector{}
			for _, id := range x.given {
				have = have.With(id.R, id.Seq)
			}
			stands(t, p, have, x.left...)
			var all [][]byte
			for _, id := range x.given { // kept in the order in which they were known
				all = append(all, bytesNamed(id, append(x.waiting, x.comes)...))
			}
			keeps(t, p, all...)
			rejects(t, p, x.comes, api.OK)
		})
		if t.Failed() {
			t.Fatal(i)
		}
	}
}

// bytesNamed are those of the envelope of a name.
func bytesNamed(id txn.ID, all ...[]byte) []byte {
	for _, b := range all {
		if e, _ := wire.Decode(b); e.Txn.ID() == id {
			return b
		}
	}
	return nil
}

func TestPastOnesGo(t *testing.T) { // P13.2: another envelope of a name that is known then is past, and goes without being done
	p, d := New(5), &doer{}
	receives(t, p, env(2, 1, 9, 9), d, 0, api.OK)
	receives(t, p, env(2, 2), d, 0, api.OK)
	receives(t, p, env(2, 3, 8, 8), d, 0, api.OK)
	wants(t, p, gaps(2, 1, 2, 8, 1, 8, 9, 1, 9)...)
	receives(t, p, env(2, 1), d, 2, api.OK, names(2, 1, 2, 2)...)
	stands(t, p, vec(2, 2), name(2, 3))
	wants(t, p, gaps(8, 1, 8)...)
	receives(t, p, env(2, 3), d, 1, api.OK, name(2, 3))
	stands(t, p, vec(2, 3))
	wants(t, p)
	keeps(t, p, env(2, 1), env(2, 2), env(2, 3))
	for _, tells := range []api.Errno{api.ErrRef, api.OK} { // also ahead of one that tells an error
		p, d := New(5), refuser(tells, name(2, 2))
		receives(t, p, env(2, 1, 9, 9), d, 0, api.OK)
		receives(t, p, env(2, 2), d, 0, api.OK)
		receives(t, p, env(2, 1), d, 1+btoi(tells == api.OK), tells, names(2, 1, 2, 2)...)
		stands(t, p, vec(2, 1+btoi(tells == api.OK)))
		wants(t, p)
	}
	p, d = New(5), refuser(api.ErrRef, name(2, 1)) // it isn't past, if the one that came tells an error
	receives(t, p, env(2, 1, 9, 1), d, 0, api.OK)
	receives(t, p, env(2, 1), d, 0, api.ErrRef, name(2, 1))
	stands(t, p, nil, name(2, 1))
	receives(t, p, env(9, 1), &doer{}, 2, api.OK, names(9, 1, 2, 1)...)
	keeps(t, p, env(9, 1), env(2, 1, 9, 1))
}

func btoi(b bool) int { return map[bool]int{true: 1}[b] }

func TestApplyRefusesTheFirst(t *testing.T) { // P13.2: it isn't known, and doesn't wait; nothing else is taken
	for _, tells := range []api.Errno{api.ErrRange, api.ErrTwice, api.ErrFull, api.ErrRef, api.ErrOwn, 77, -1, math.MinInt, math.MaxInt} {
		p, d := New(5), refuser(tells, name(2, 1))
		receives(t, p, env(2, 2), d, 0, api.OK)
		receives(t, p, env(3, 1, 2, 1), d, 0, api.OK)
		for range 3 {
			before := told(p)
			receives(t, p, env(2, 1), d, 0, tells, name(2, 1))
			if after := told(p); after != before {
				t.Errorf("it was changed: %s, was %s", after, before)
			}
		}
		stands(t, p, nil, names(2, 2, 3, 1)...)
		wants(t, p, gaps(2, 1, 1)...)
		if l := p.Reply(vector.Gap{R: 2, From: 1, To: 9}, 9); len(l) > 0 {
			t.Errorf("kept: %x", l)
		}
		receives(t, p, env(2, 1), &doer{}, 3, api.OK, names(2, 1, 2, 2, 3, 1)...)
		stands(t, p, vec(2, 2, 3, 1))
	}
}

func TestApplyRefusesALaterOne(t *testing.T) { // P13.2: those ahead of it are known, those behind it wait, it neither
	all := [][]byte{env(1, 1), env(1, 2), env(1, 3), env(2, 1, 1, 1), env(3, 1, 2, 1), env(4, 1, 1, 2)}
	order := names(1, 1, 1, 2, 1, 3, 2, 1, 3, 1, 4, 1)
	for i, refused := range order[1:] {
		p, d := New(5), refuser(api.ErrTwice, refused)
		for _, b := range all[1:] {
			receives(t, p, b, d, 0, api.OK)
		}
		receives(t, p, all[0], d, i+1, api.ErrTwice, order[:i+2]...)
		have := vector.Vector{}
		for _, id := range order[:i+1] {
			have = have.With(id.R, id.Seq)
		}
		stands(t, p, have, order[i+2:]...)
		keeps(t, p, all[:i+1]...)
		nexts(t, p, 1, api.OK)
		receives(t, p, all[i+1], d, 0, api.ErrTwice, refused) // once more
		stands(t, p, have, order[i+2:]...)
		receives(t, p, all[i+1], &doer{}, len(order)-i-1, api.OK, order[i+1:]...)
		stands(t, p, vec(1, 3, 2, 1, 3, 1, 4, 1))
		keeps(t, p, all...)
		if t.Failed() {
			t.Fatal(i)
		}
	}
}

func TestReadyOnesThatWait(t *testing.T) { // P13.2: those that an error left behind are taken with the next one that is
	p, d := New(5), refuser(api.ErrRef, name(2, 1))
	for _, b := range [][]byte{env(2, 1, 1, 1), env(3, 1, 1, 1), env(4, 1, 1, 1)} {
		receives(t, p, b, d, 0, api.OK)
	}
	receives(t, p, env(1, 1), d, 1, api.ErrRef, names(1, 1, 2, 1)...)
	stands(t, p, vec(1, 1), names(3, 1, 4, 1)...)
	wants(t, p)                             // all that they need is known
	rejects(t, p, env(1, 1), api.OK)        // what is past lets none go
	rejects(t, p, env(5, 1), api.ErrOwn)    // nor does what is refused
	receives(t, p, env(7, 2), d, 0, api.OK) // nor what waits itself
	stands(t, p, vec(1, 1), names(3, 1, 4, 1, 7, 2)...)
	receives(t, p, env(4, 1), d, 2, api.OK, names(4, 1, 3, 1)...) // one of them comes again: it is done once
	stands(t, p, vec(1, 1, 3, 1, 4, 1), name(7, 2))
	receives(t, p, env(2, 1, 1, 1), &doer{}, 1, api.OK, name(2, 1))
}

func TestLoad(t *testing.T) { // P13.3
	p, d := New(5), &doer{}
	all := [][]byte{env(5, 1), env(2, 1, 5, 1), env(5, 2), env(5, 3, 2, 1), env(0, 1), env(mostReplica, 1, 0, 1, 2, 1, 5, 3), bytesOf(saying(2, 2, "two"), vec(5, 2))}
	for i, b := range all {
		e, _ := wire.Decode(b)
		loads(t, p, b, d, api.OK, e.Txn.ID())
		if !sameTxn(d.given[0], e.Txn) {
			t.Errorf("given: %v, want %v", d.given[0], e.Txn)
		}
		keeps(t, p, all[:i+1]...)
		for _, b := range all[:i+1] { // what is known isn't ready
			loads(t, p, b, d, api.ErrRef)
		}
		if t.Failed() {
			t.Fatal(i)
		}
	}
	stands(t, p, vec(0, 1, 2, 2, 5, 3, mostReplica, 1))
	for _, b := range [][]byte{env(5, 5), env(5, 4, 2, 3), env(5, 4, 9, 1), env(2, 4), env(2, 3, 5, 4), env(1, 2), env(1, 1, 3, 1), env(mostReplica, mostSeq)} {
		loads(t, p, b, d, api.ErrRef) // and doesn't wait
	}
	nexts(t, p, 4, api.OK)
	sends(t, p, of(5, 4), 0, 1, 2, 2, mostReplica, 1)
}

func TestLoadRefused(t *testing.T) { // P13.3: apply's error, and nothing changes
	p := New(5)
	loads(t, p, env(2, 1), &doer{}, api.OK, name(2, 1))
	for _, x := range []struct {
		b  []byte
		id txn.ID
	}{{env(5, 1), name(5, 1)}, {env(2, 2), name(2, 2)}, {env(3, 1, 2, 1), name(3, 1)}} {
		for _, tells := range []api.Errno{api.ErrRange, api.ErrFull, api.ErrRef, 77, -1} {
			loads(t, p, x.b, refuser(tells, x.id), tells, x.id)
		}
		loads(t, p, x.b, &doer{}, api.OK, x.id)
	}
}

func TestLoadWhereThereIsNoRoom(t *testing.T) { // P13.3
	p, d := New(5), &doer{}
	fill(t, p, 1)
	loads(t, p, env(5, 1), d, api.OK, name(5, 1))
	unchanged(t, p, vec(5, 1, 77, logRoom-1), func() {
		for _, x := range []struct {
			b    []byte
			want api.Errno
		}{{env(5, 2), api.ErrFull}, {env(2, 1), api.ErrFull}, {env(77, logRoom), api.ErrFull}, {env(5, 1), api.ErrRef}, {env(5, 3), api.ErrRef}, {env(2, 2), api.ErrRef}, {env(2, 1, 3, 1), api.ErrRef}, {nil, api.ErrShort}} {
			if e := p.Load(x.b, d.do); e != x.want {
				t.Errorf("Load: %d, want %d", e, x.want)
			}
		}
		if len(d.given) != 1 {
			t.Errorf("given: %v", d.names())
		}
	})
}

func TestLoadAll(t *testing.T) { // P13.3: what one knew, in its order, lets another one of its replica tell the same, but for what waited
	src := rand.New(rand.NewSource(132))
	for range 30 {
		g := newGroup(3, 12, 6)
		for range 60 {
			g.step(t, src)
		}
		for _, p := range g.ends {
			q := again(t, p)
			n, wrong := p.Next()
			nexts(t, q, n, wrong)
			stands(t, q, p.Have())
			keeps(t, q, p.All()...)
		}
	}
}

func TestReply(t *testing.T) { // P13.3: as layer 12 has it: of what is known alone, by rising numbers, at most so many
	p, d := New(5), &doer{}
	receives(t, p, env(2, 3), d, 0, api.OK)
	sends(t, p, of(5, 1))
	receives(t, p, env(2, 1), d, 1, api.OK, name(2, 1))
	receives(t, p, env(2, 2), d, 2, api.OK, names(2, 2, 2, 3)...)
	receives(t, p, env(2, 5), d, 0, api.OK) // what waits isn't told
	sends(t, p, of(5, 2), 2, 3)
	two, own := [][]byte{env(2, 1), env(2, 2), env(2, 3)}, [][]byte{env(5, 1), env(5, 2, 2, 3)}
	for i, x := range []struct {
		g    vector.Gap
		most int
		want [][]byte
	}{
		{vector.Gap{R: 2, From: 1, To: 3}, 9, two}, {vector.Gap{R: 2, From: 0, To: 1000}, 3, two}, {vector.Gap{R: 2, From: 1, To: 5}, math.MaxInt, two}, {vector.Gap{R: 2, From: 1, To: 3}, 2, two[:2]}, {vector.Gap{R: 2, From: 1, To: 3}, 1, two[:1]}, {vector.Gap{R: 2, From: 2, To: 3}, 1, two[1:2]}, {vector.Gap{R: 2, From: 2, To: 1002}, 9, two[1:]}, {vector.Gap{R: 2, From: 1, To: 2}, 9, two[:2]}, {vector.Gap{R: 2, From: 3, To: 3}, 9, two[2:]},
		{vector.Gap{R: 5, From: 1, To: 3}, 9, own}, {vector.Gap{R: 5, From: 2, To: 2}, 9, own[1:]},
		{vector.Gap{R: 2, From: 1, To: 3}, 0, nil}, {vector.Gap{R: 2, From: 1, To: 3}, -1, nil}, {vector.Gap{R: 2, From: 1, To: 3}, math.MinInt, nil}, {vector.Gap{R: 2, From: 4, To: 9}, 9, nil}, {vector.Gap{R: 2, From: 3, To: 1}, 9, nil}, {vector.Gap{R: 3, From: 1, To: 9}, 9, nil}, {vector.Gap{R: 2, From: 5, To: 5}, 9, nil}, {vector.Gap{}, 9, nil},
	} {
		if got := p.Reply(x.g, x.most); !sameLists(got, x.want) {
			t.Errorf("%d: %x, want %x", i, got, x.want)
		}
	}
	stands(t, p, vec(2, 3, 5, 2), name(2, 5))
}

func TestAll(t *testing.T) { // P13.3: in the order in which they were known, sent and come alike
	p, d := New(5), &doer{}
	receives(t, p, env(9, 2), d, 0, api.OK)
	a := sends(t, p, of(5, 1))
	receives(t, p, env(7, 1), d, 1, api.OK, name(7, 1))
	b := sends(t, p, of(5, 2), 7, 1)
	receives(t, p, env(2, 1), d, 1, api.OK, name(2, 1))
	receives(t, p, env(9, 1), d, 2, api.OK, names(9, 1, 9, 2)...)
	receives(t, p, env(2, 3), d, 0, api.OK)
	c := sends(t, p, of(5, 3), 2, 1, 7, 1, 9, 2)
	loads(t, New(5), a, d, api.OK, name(5, 1))
	keeps(t, p, a, env(7, 1), b, env(2, 1), env(9, 1), env(9, 2), c)
	keeps(t, p, a, env(7, 1), b, env(2, 1), env(9, 1), env(9, 2), c)
}

func TestMemoryHandedIn(t *testing.T) { // what is handed in is neither changed nor kept: transactions here, bytes in receives, loads and sends
	made := func(r, seq int) txn.Txn {
		ops := []op.Op{ins(4, "ab"), del(append([]span.Span{sp(1, 1, 2), sp(2, 1, 1)}, sp(7, 7, 7))[:2]...), undo(9)}
		return txn.Txn{R: uint16(r), Seq: uint32(seq), Clock: 9, User: 2, Ops: ops[:2]}
	}
	p := New(5)
	x, want := made(5, 1), made(5, 1)
	b, e := p.Send(x)
	if e != api.OK || !slices.EqualFunc(x.Ops[:3], want.Ops[:3], sameOp) || !slices.Equal(x.Ops[1].Spans[:3], want.Ops[1].Spans[:3]) {
		t.Fatalf("Send: %d, %v", e, x.Ops[:3])
	}
	clear(x.Ops[1].Spans)
	clear(x.Ops)
	sent := bytesOf(made(5, 1), nil)
	if !bytes.Equal(b, sent) {
		t.Errorf("%x, want %x", b, sent)
	}
	spoil(b) // what Send told belongs to who asked
	keeps(t, p, sent)
	waits, first := bytesOf(made(2, 2), vec(5, 1)), env(2, 1)
	receives(t, p, waits, &doer{}, 0, api.OK) // changes what was handed in, then
	d := &doer{}
	receives(t, p, first, d, 2, api.OK, names(2, 1, 2, 2)...)
	if !sameTxn(d.given[1], made(2, 2)) {
		t.Errorf("given: %v", d.given[1])
	}
	keeps(t, p, sent, first, waits)
}

func TestMemoryGiven(t *testing.T) { // whoever does a transaction may change all that is handed over, and what came
	list := func(r, seq int, deps ...int) []byte {
		return bytesOf(txn.Txn{R: uint16(r), Seq: uint32(seq), Clock: 9, Ops: []op.Op{del(sp(1, 1, 2), sp(2, 1, 1)), ins(5, "x")}}, vec(deps...))
	}
	all := [][]byte{list(2, 1), list(2, 2), list(3, 1, 2, 2)}
	for _, tells := range []api.Errno{api.OK, api.ErrRef} {
		p := New(5)
		for _, b := range all[1:] {
			receives(t, p, b, &doer{}, 0, api.OK)
		}
		b := roomy(all[0])
		n, e := p.Receive(b, func(x txn.Txn) api.Errno {
			spoil(b)
			for _, o := range x.Ops {
				clear(o.Spans[:cap(o.Spans)])
			}
			clear(x.Ops[:cap(x.Ops)])
			if x.R == 3 {
				return tells
			}
			return api.OK
		})
		if e != tells || n != 2+btoi(tells == api.OK) {
			t.Error(n, e)
		}
		keeps(t, p, all[:n]...)
		q := New(5)
		q.Load(all[0], func(x txn.Txn) api.Errno { clear(x.Ops); return api.OK })
		keeps(t, q, all[0])
	}
}

func TestMemoryTold(t *testing.T) { // what is told is new memory, no two share any, and later calls don't change it
	p := standing(t)
	before := told(p) // which changes what it was told
	if again := told(p); again != before {
		t.Fatalf("%s, was %s", again, before)
	}
	have, other, gap, all := p.Have(), p.Have(), p.Wants(), p.All()
	replies := [][][]byte{p.Reply(vector.Gap{R: 1, From: 1, To: 9}, 9), p.Reply(vector.Gap{R: 1, From: 1, To: 9}, 9), p.Reply(vector.Gap{R: 3, From: 1, To: 9}, 9)}
	_ = append(have[:1], vec(9, 9)...)
	if !slices.Equal(other, vec(1, 2, 3, 2)) {
		t.Error(other)
	}
	wantAll := [][]byte{env(3, 1), env(1, 1), env(1, 2, 3, 1), env(3, 2, 1, 2)}
	sends(t, p, of(3, 3), 1, 2)
	receives(t, p, env(1, 3), &doer{}, 3, api.OK, names(1, 3, 1, 4, 4, 1)...)
	receives(t, p, env(0, 1), &doer{}, 1, api.OK, name(0, 1))
	if !slices.Equal(other, vec(1, 2, 3, 2)) || !slices.Equal(gap, gaps(1, 3, 3, 2, 1, 1)) || !sameLists(all, wantAll) {
		t.Errorf("later calls changed what was told: %v, %v, %x", other, gap, all)
	}
	for _, b := range slices.Concat(all, replies[0]) {
		spoil(b)
		_ = append(b, "behind it"...)
	}
	clear(replies[0])
	if !sameLists(replies[1], wantAll[1:3]) || !sameLists(replies[2], [][]byte{wantAll[0], wantAll[3]}) {
		t.Errorf("two answers share memory: %x", replies[1:])
	}
	keeps(t, p, append(wantAll, bytesOf(of(3, 3), vec(1, 2)), env(1, 3), env(1, 4), env(4, 1, 1, 3, 3, 2), env(0, 1))...)
}

func TestApplyThatCannotBeCalled(t *testing.T) { // P1: nil, or one that panics: nothing was done
	for _, apply := range []func(txn.Txn) api.Errno{nil, func(txn.Txn) api.Errno { panic("out") }, func(x txn.Txn) api.Errno { return api.Errno(x.Ops[1].Kind) }} {
		p := New(5)
		before := told(p)
		if e := p.Load(env(2, 1), apply); e != api.ErrNone {
			t.Error(e)
		}
		if n, e := p.Receive(env(2, 1), apply); n != 0 || e != api.ErrNone {
			t.Error(n, e)
		}
		if after := told(p); after != before {
			t.Errorf("it was changed: %s", after)
		}
		if n, e := p.Receive(env(2, 2), apply); n != 0 || e != api.OK {
			t.Error(n, e)
		}
		if n, e := p.Receive(nil, apply); n != 0 || e != api.ErrShort {
			t.Error(n, e)
		}
		receives(t, p, env(2, 1), &doer{}, 2, api.OK, names(2, 1, 2, 2)...)
		if n, e := p.Receive(env(2, 1), apply); n != 0 || e != api.OK {
			t.Error(n, e)
		}
	}
}

func TestEndsAtAnyArguments(t *testing.T) { // P1
	src := rand.New(rand.NewSource(133))
	wild := op.Op{Kind: math.MinInt, N: math.MaxUint32, Spans: []span.Span{sp(1, math.MaxUint32, math.MaxInt), {}}, Text: strings.Repeat("\xff", 1<<20)}
	p, d := New(3), &doer{}
	for i, ops := range [][]op.Op{nil, {}, {{}}, {wild}, slices.Repeat([]op.Op{wild}, 1000), {undo(0), undo(math.MaxUint32)}, {ins(1, "a")}} {
		for _, seq := range []uint32{0, 1, 2, mostSeq, mostSeq + 1, math.MaxUint32} {
			for _, r := range []uint16{0, 3, mostReplica} {
				p.Send(txn.Txn{R: r, Seq: seq, Clock: uint64(i) * (math.MaxUint64 / 6), User: i - 3, Ops: ops})
			}
			for _, to := range []uint32{0, 1, 1001, mostSeq, math.MaxUint32} {
				p.Reply(vector.Gap{R: uint16(i), From: seq, To: to}, math.MaxInt)
			}
		}
	}
	for range 3000 {
		b := make([]byte, src.Intn(60))
		src.Read(b)
		if src.Intn(2) == 0 {
			b = numbers(uint64(src.Intn(3)), uint64(src.Intn(4)), uint64(src.Intn(4)), uint64(src.Intn(4)), 1, 0, 1, uint64(src.Intn(6)), uint64(src.Intn(4)), 0, 1)
		}
		p.Receive(b, d.do)
		p.Load(b, d.do)
		p.Wants()
		p.Next()
	}
	all := make(vector.Vector, 0, 65535) // as many Deps as may be
	for r := range 65535 {
		all = append(all, vector.Entry{R: uint16(r), Seq: mostSeq})
	}
	q := New(3)
	receives(t, q, bytesOf(of(mostReplica, mostSeq), all), d, 0, api.OK)
	if l := q.Wants(); len(l) != 65536 || l[65535] != (vector.Gap{R: mostReplica, From: 1, To: mostSeq - 1}) {
		t.Error(len(l))
	}
}

// plain is the reference for an endpoint: what is known, in its order, and what waits, by name.
type plain struct {
	r     uint16
	order []txn.ID
	bytes [][]byte // of each of order
	known map[uint16]uint32
	waits map[txn.ID]wire.Envelope
}

func (p *plain) knows(r uint16, seq uint32) bool { return p.known[r] >= seq }

func (p *plain) ready(e wire.Envelope) bool {
	for _, d := range e.Deps {
		if !p.knows(d.R, d.Seq) {
			return false
		}
	}
	return p.knows(e.Txn.R, e.Txn.Seq-1) && !p.knows(e.Txn.R, e.Txn.Seq)
}

func (p *plain) next() (uint32, api.Errno) {
	if len(p.order) == logRoom {
		return 0, api.ErrFull
	}
	return p.known[p.r] + 1, api.OK
}

func (p *plain) know(b []byte, id txn.ID) {
	p.order, p.bytes = append(p.order, id), append(p.bytes, b)
	p.known[id.R] = id.Seq
}

func (p *plain) have() vector.Vector {
	v := vector.Vector{}
	for r, seq := range p.known {
		v = append(v, vector.Entry{R: r, Seq: seq})
	}
	slices.SortFunc(v, func(a, b vector.Entry) int { return int(a.R) - int(b.R) })
	return v
}

func (p *plain) names() []txn.ID {
	l := []txn.ID{}
	for id := range p.waits {
		l = append(l, id)
	}
	slices.SortFunc(l, func(a, b txn.ID) int { return (int(a.R)-int(b.R))<<30 + int(a.Seq) - int(b.Seq) })
	return l
}

func (p *plain) wants() []vector.Gap {
	most := map[uint16]uint32{}
	for _, e := range p.waits {
		for _, d := range append(slices.Clone(e.Deps), vector.Entry{R: e.Txn.R, Seq: e.Txn.Seq - 1}) {
			most[d.R] = max(most[d.R], d.Seq)
		}
	}
	l := []vector.Gap{}
	for r, seq := range most {
		if !p.knows(r, seq) {
			l = append(l, vector.Gap{R: r, From: p.known[r] + 1, To: seq})
		}
	}
	slices.SortFunc(l, func(a, b vector.Gap) int { return int(a.R) - int(b.R) })
	return l
}

// asked is what the endpoint is to tell of itself.
func (p *plain) asked() string {
	n, e := p.next()
	return fmt.Sprintf("%s, %d wait: %v, kept %d, next %d %d, wants %v", p.have().Show(), len(p.waits), p.names(), len(p.order), n, e, p.wants())
}

func (p *plain) send(x txn.Txn) ([]byte, api.Errno) {
	n, wrong := p.next()
	if wrong != api.OK {
		return nil, wrong
	}
	if x.R != p.r || x.Seq != n {
		return nil, api.ErrForm
	}
	b, wrong := wire.Encode(wire.Envelope{Deps: p.have().With(p.r, 0), Txn: x})
	if wrong == api.OK {
		p.know(b, x.ID())
	}
	return b, wrong
}

// take tells the names that were given to be done, too.
func (p *plain) take(b []byte, id txn.ID, d *doer) api.Errno {
	if len(p.order) == logRoom {
		return api.ErrFull
	}
	d.given = append(d.given, txn.Txn{R: id.R, Seq: id.Seq})
	if d.tells[id] == api.OK {
		p.know(b, id)
	}
	return d.tells[id]
}

func (p *plain) receive(b []byte, d *doer) (int, api.Errno) {
	e, wrong := wire.Decode(b)
	id := e.Txn.ID()
	_, twice := p.waits[id]
	switch {
	case wrong != api.OK:
		return 0, wrong
	case p.knows(id.R, id.Seq):
		return 0, api.OK
	case id.R == p.r:
		return 0, api.ErrOwn
	case p.ready(e):
		return p.takeAll(b, id, d)
	case twice:
		return 0, api.OK
	case len(p.waits) == holdRoom:
		return 0, api.ErrFull
	}
	p.waits[id] = e
	return 0, api.OK
}

func (p *plain) takeAll(b []byte, id txn.ID, d *doer) (int, api.Errno) {
	for n := 0; ; n++ {
		if wrong := p.take(b, id, d); wrong != api.OK {
			return n, wrong
		}
		found := false
		for _, other := range p.names() {
			e := p.waits[other]
			if p.knows(other.R, other.Seq) {
				delete(p.waits, other)
			} else if !found && p.ready(e) {
				found, id, b = true, other, bytesOf(e.Txn, e.Deps)
				delete(p.waits, other)
			}
		}
		if !found {
			return n + 1, api.OK
		}
	}
}

func (p *plain) load(b []byte, d *doer) api.Errno {
	e, wrong := wire.Decode(b)
	if wrong != api.OK {
		return wrong
	}
	if !p.ready(e) {
		return api.ErrRef
	}
	return p.take(b, e.Txn.ID(), d)
}

// reply goes through all that is known, where the program goes through the gap.
func (p *plain) reply(g vector.Gap, most int) [][]byte {
	var l [][]byte
	for i, id := range p.order { // of one replica they were known by rising numbers
		if id.R == g.R && id.Seq >= g.From && id.Seq <= g.To && len(l) < most {
			l = append(l, p.bytes[i])
		}
	}
	return l
}

// group is some endpoints, of the replicas 0, 1, .., their references, and all bytes that were sent, or made up.
type group struct {
	ends   []*Endpoint
	plains []*plain
	bytes  [][]byte
	far    int // how far numbers go that are made up
	odds   int // of so many that come one is made up
	seen   map[string]int
}

func newGroup(n, far, odds int) *group {
	g := &group{far: far, odds: odds, seen: map[string]int{}}
	for r := range n {
		g.ends = append(g.ends, New(uint16(r)))
		g.plains = append(g.plains, &plain{r: uint16(r), known: map[uint16]uint32{}, waits: map[txn.ID]wire.Envelope{}})
	}
	return g
}

func pick[T any](src *rand.Rand, l ...T) T { return l[src.Intn(len(l))] }

// someTxn is the one of this name, that may be sent as far as numbers are right.
func someTxn(src *rand.Rand, r, seq int) txn.Txn {
	x := saying(r, seq, strings.Repeat(string(rune('a'+src.Intn(26))), 1+src.Intn(5)))
	x.Clock, x.User = uint64(1+src.Int63n(api.MaxClock)), src.Intn(8)
	switch src.Intn(4) {
	case 0:
		x.Ops = append(x.Ops, del(sp(uint16(src.Intn(9)), uint32(1+src.Intn(9)), 1+src.Intn(9))))
	case 1:
		if seq > 1 {
			x.Ops = []op.Op{undo(uint32(1 + src.Intn(seq-1)))}
		}
	}
	return x
}

// madeUp are the bytes of an envelope that nobody sent, of a name that may be another one's.
func (g *group) madeUp(src *rand.Rand) []byte {
	n := len(g.ends) + 1
	r, deps := src.Intn(n), vector.Vector{}
	for range src.Intn(3) {
		deps = deps.With(uint16(src.Intn(n)), uint32(1+src.Intn(g.far)))
	}
	return bytesOf(someTxn(src, r, 1+src.Intn(g.far)), deps.With(uint16(r), 0))
}

// someBytes are what may come: what was sent, made up, or spoilt.
func (g *group) someBytes(src *rand.Rand) []byte {
	if len(g.bytes) == 0 || src.Intn(g.odds) == 0 {
		g.bytes = append(g.bytes, g.madeUp(src))
	}
	b := pick(src, g.bytes...)
	if src.Intn(6) == 0 {
		return harm(src, b)
	}
	return b
}

// someDoer tells errors of none, or of some, one that waits among them.
func (g *group) someDoer(src *rand.Rand, q *plain) *doer {
	d := refuser(api.OK)
	wrong := func() api.Errno { return pick(src, api.ErrRef, api.ErrFull, api.ErrTwice, 99) }
	for range src.Intn(4) * src.Intn(3) {
		d.tells[name(src.Intn(len(g.ends)+1), 1+src.Intn(g.far))] = wrong()
	}
	if l := q.names(); len(l) > 0 && src.Intn(3) == 0 {
		d.tells[pick(src, l...)] = wrong()
	}
	return d
}

// step does one call of any kind at one of the endpoints and its reference, and looks at what both tell then.
func (g *group) step(t *testing.T, src *rand.Rand) {
	t.Helper()
	i := src.Intn(len(g.ends))
	p, q := g.ends[i], g.plains[i]
	switch src.Intn(8) {
	default:
		g.seen[g.comes(t, src, p, q)]++
	case 0, 1:
		g.seen[g.sends(t, src, p, q)]++
	case 2:
		x := vector.Gap{R: uint16(src.Intn(len(g.ends) + 1)), From: uint32(src.Intn(g.far)), To: uint32(src.Intn(g.far))}
		most := pick(src, -1, 0, 1, 2, src.Intn(9), math.MaxInt)
		want := q.reply(x, most)
		if got := p.Reply(x, most); !sameLists(got, want) {
			t.Errorf("Reply of %v, at most %d: %x, want %x", x, most, got, want)
		}
		g.seen[fmt.Sprint("reply ", min(len(want), 1))]++
	case 3:
		if p.Held() == 0 {
			b, d := g.someBytes(src), g.someDoer(src, q)
			ref := refuser(api.OK)
			ref.tells = d.tells
			want, got := q.load(b, ref), p.Load(b, d.do)
			if got != want || !slices.Equal(d.names(), ref.names()) {
				t.Errorf("Load: %d, given %v, want %d, %v", got, d.names(), want, ref.names())
			}
			g.seen[fmt.Sprint("load ", want == api.OK, want == api.ErrRef)]++
		}
	}
	if got, want := asked(p), q.asked(); got != want {
		t.Errorf("replica %d: %s, want %s", i, got, want)
	}
	if t.Failed() {
		t.FailNow()
	}
}

// comes lets something come to both, and tells what became of it.
func (g *group) comes(t *testing.T, src *rand.Rand, p *Endpoint, q *plain) string {
	t.Helper()
	b, d := g.someBytes(src), g.someDoer(src, q)
	ref := refuser(api.OK)
	ref.tells = d.tells
	wantN, want := q.receive(b, ref)
	n, e := p.Receive(b, d.do)
	if n != wantN || e != want || !slices.Equal(d.names(), ref.names()) {
		t.Errorf("Receive: %d, %d, given %v, want %d, %d, %v", n, e, d.names(), wantN, want, ref.names())
	}
	switch given := len(ref.given); {
	case want == api.ErrOwn && given == 0:
		return "own"
	case want == api.ErrFull && given == 0:
		return "full"
	case want != api.OK && given == 0:
		return "spoilt"
	case want != api.OK && given == n:
		return "no room later"
	case want != api.OK:
		return fmt.Sprint("refused behind ", min(n, 2))
	default:
		return fmt.Sprint("done ", min(n, 3))
	}
}

// sends lets both send, now and then something wrong, and tells what became of it.
func (g *group) sends(t *testing.T, src *rand.Rand, p *Endpoint, q *plain) string {
	t.Helper()
	n, _ := q.next()
	x := someTxn(src, int(q.r), max(1, int(n)))
	switch src.Intn(9) {
	case 0:
		x.Seq += uint32(src.Intn(3) - 1)
	case 1:
		x.R = uint16(src.Intn(len(g.ends)))
	case 2:
		x = pick(src, wrongTxns(int(q.r), int(x.Seq))...).x
	}
	want, wrong := q.send(x)
	b, e := p.Send(x)
	if !bytes.Equal(b, want) || e != wrong {
		t.Errorf("Send of %v: %x, %d, want %x, %d", x, b, e, want, wrong)
	}
	if wrong == api.OK {
		g.bytes = append(g.bytes, want)
	}
	return fmt.Sprint("sent ", wrong == api.OK)
}

func TestLongRuns(t *testing.T) { // P13.1, P13.2, P13.3: calls of any kind, against the reference
	src := rand.New(rand.NewSource(13))
	seen := map[string]int{}
	for range 150 {
		g := newGroup(pick(src, 1, 2, 3, 6), pick(src, 4, 12, 300), pick(src, 1, 3, 9, 30))
		g.seen = seen
		for range 1000 {
			g.step(t, src)
		}
		for i, p := range g.ends {
			keeps(t, p, g.plains[i].bytes...)
		}
	}
	for _, what := range []string{"sent true", "sent false", "own", "full", "spoilt", "refused behind 0", "refused behind 1", "refused behind 2", "done 0", "done 1", "done 2", "done 3", "reply 0", "reply 1", "load true false", "load false true", "load false false"} {
		if seen[what] < 30 {
			t.Errorf("%s: only %d times", what, seen[what])
		}
	}
}

func TestLongRunWhereThereIsLittleRoom(t *testing.T) { // P13.1, P13.2, P13.3
	src := rand.New(rand.NewSource(134))
	seen := map[string]int{}
	most := New(3)
	fill(t, most, 15)
	filling := most.All()
	for range 4 {
		g := newGroup(2, 6, 3)
		g.seen = seen
		for i, p := range g.ends {
			for _, b := range filling {
				n := g.plains[i].known[77] + 1
				if e := p.Load(b, (&doer{}).do); e != api.OK {
					t.Fatal(e)
				}
				g.plains[i].know(b, txn.ID{R: 77, Seq: n})
			}
		}
		for range 400 {
			g.step(t, src)
		}
		for i, p := range g.ends {
			if all := p.All(); !sameLists(all, g.plains[i].bytes) {
				t.Errorf("%d are kept, want %d", len(all), len(g.plains[i].bytes))
			}
		}
	}
	for _, what := range []string{"sent true", "sent false", "own", "full", "done 0", "done 1"} {
		if seen[what] < 5 {
			t.Errorf("%s: only %d times", what, seen[what])
		}
	}
}

// watch looks at all that is given to one endpoint: nothing twice with OK, and everything behind all that its envelope needs.
type watch struct {
	t     *testing.T
	p     *Endpoint
	src   *rand.Rand
	deps  map[txn.ID]vector.Vector // of all that was sent
	known map[txn.ID]bool
	often int // one of so many tells an error; 0: none does
}

func (w *watch) do(x txn.Txn) api.Errno {
	id := x.ID()
	if w.known[id] {
		w.t.Errorf("%v is given twice", id)
	}
	for _, d := range append(slices.Clone(w.deps[id]), vector.Entry{R: id.R, Seq: id.Seq - 1}) {
		for seq := range d.Seq {
			if !w.known[txn.ID{R: d.R, Seq: seq + 1}] {
				w.t.Errorf("%v is given ahead of what it needs: %d of %d", id, seq+1, d.R)
			}
		}
	}
	if w.often > 0 && w.src.Intn(w.often) == 0 {
		return api.ErrRef
	}
	w.known[id] = true
	return api.OK
}

// watched are so many endpoints, that know one another's alone.
func watched(t *testing.T, src *rand.Rand, n, often int) []*watch {
	deps := map[txn.ID]vector.Vector{}
	var all []*watch
	for r := range n {
		all = append(all, &watch{t: t, p: New(uint16(r)), src: src, deps: deps, known: map[txn.ID]bool{}, often: often})
	}
	return all
}

// send lets one send what comes next.
func (w *watch) send() []byte {
	n, _ := w.p.Next()
	x := someTxn(w.src, int(w.p.replica), int(n))
	b, e := w.p.Send(x)
	if e != api.OK {
		w.t.Fatal(e)
	}
	sent, _ := wire.Decode(b)
	w.deps[x.ID()], w.known[x.ID()] = sent.Deps, true
	return b
}

// talk lets all send so much, while some of it comes to some, in any order, several times, spoilt or not at all.
func talk(src *rand.Rand, all []*watch, sent int) [][]byte {
	var sends [][]byte
	for len(sends) < sent {
		w := pick(src, all...)
		if len(sends) == 0 || src.Intn(5) == 0 {
			sends = append(sends, w.send())
			continue
		}
		b := pick(src, sends[max(0, len(sends)-src.Intn(30)-1):]...)
		if src.Intn(5) == 0 {
			b = harm(src, b)
		}
		w.p.Receive(b, w.do)
	}
	return sends
}

// agree looks at all knowing the same, and nothing waiting.
func agree(t *testing.T, all []*watch, sent int) {
	t.Helper()
	for _, w := range all {
		if have := w.p.Have(); !slices.Equal(have, all[0].p.Have()) || have.Sum() != sent || w.p.Held() != 0 || len(w.p.Wants()) != 0 || w.p.Kept() != sent || len(w.known) != sent {
			t.Fatalf("replica %d knows %s, %d wait, %d are kept, of %d", w.p.replica, have.Show(), w.p.Held(), w.p.Kept(), sent)
		}
	}
}

func TestAllComesToAll(t *testing.T) { // P13.4
	src := rand.New(rand.NewSource(135))
	for round := range 300 {
		all := watched(t, src, 2+src.Intn(5), pick(src, 0, 0, 9, 3))
		sends := talk(src, all, 1+src.Intn(holdRoom))
		for _, w := range all {
			w.often = 0
			order := slices.Clone(sends)
			order = append(order, sends[:src.Intn(len(sends)+1)]...)
			src.Shuffle(len(order), func(i, j int) { order[i], order[j] = order[j], order[i] })
			for _, b := range order {
				if _, e := w.p.Receive(harm(src, b), w.do); e == api.OK {
					t.Fatal("spoilt bytes were taken")
				}
				if _, e := w.p.Receive(b, w.do); e != api.OK {
					t.Fatal(e)
				}
			}
		}
		agree(t, all, len(sends))
		if t.Failed() {
			t.Fatal(round)
		}
	}
}

func TestMoreComesThanMayWait(t *testing.T) { // P13.4: what was refused for want of room comes again
	src := rand.New(rand.NewSource(136))
	for range 20 {
		all := watched(t, src, 2+src.Intn(3), 0)
		sends := talk(src, all, 200+src.Intn(300))
		full := 0
		for _, w := range all {
			for rounds := 0; w.p.Have().Sum() < len(sends); rounds++ {
				if rounds > len(sends) {
					t.Fatal("it comes to no end")
				}
				for _, i := range src.Perm(len(sends)) {
					_, e := w.p.Receive(sends[i], w.do)
					if e != api.OK && e != api.ErrFull {
						t.Fatal(e)
					}
					if e == api.ErrFull {
						full++
					}
				}
			}
		}
		agree(t, all, len(sends))
		if full == 0 {
			t.Error("there was room for all")
		}
	}
}

func TestAsking(t *testing.T) { // P13.3, P13.4: each has the last of each, and asks the others till nothing waits
	src := rand.New(rand.NewSource(137))
	for range 200 {
		all := watched(t, src, 2+src.Intn(4), 0)
		sends := talk(src, all, 1+src.Intn(holdRoom-6))
		for _, w := range all {
			for _, from := range all {
				if last := from.p.Have().Get(from.p.replica); last > 0 {
					b := from.p.Reply(vector.Gap{R: from.p.replica, From: last, To: last}, 1)[0]
					if _, e := w.p.Receive(b, w.do); e != api.OK {
						t.Fatal(e)
					}
				}
			}
			for rounds := 0; w.p.Held() > 0; rounds++ {
				if rounds > len(sends) {
					t.Fatalf("%d wait for %v", w.p.Held(), w.p.Wants())
				}
				for _, g := range w.p.Wants() {
					for _, b := range all[g.R].p.Reply(g, holdRoom) {
						if _, e := w.p.Receive(b, w.do); e != api.OK {
							t.Fatal(e)
						}
					}
				}
			}
		}
		agree(t, all, len(sends))
	}
}
