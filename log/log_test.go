package log

import (
	"fmt"
	"math"
	"math/rand"
	"slices"
	"strconv"
	"strings"
	"testing"

	"copyist/api"
	"copyist/txn"
	"copyist/vector"
)

// The limits as numbers, as the document says them, not as the program takes them.
const (
	room        = 65536
	far         = 1000
	mostSeq     = 268435456
	mostNumber  = math.MaxUint32
	mostReplica = 65535
)

func name(r int, seq uint32) txn.ID { return txn.ID{R: uint16(r), Seq: seq} }

func gap(r int, from, to uint32) vector.Gap { return vector.Gap{R: uint16(r), From: from, To: to} }

// item is a name, and its bytes.
type item struct {
	id   txn.ID
	text string
}

func (x item) String() string { return fmt.Sprintf("%d:%d %q", x.id.R, x.id.Seq, x.text) }

// same looks at items one by one, and tells the first ones that aren't the same.
func same(t *testing.T, what string, got, want []item) {
	t.Helper()
	i := 0
	for i < min(len(got), len(want)) && got[i] == want[i] {
		i++
	}
	if i < max(len(got), len(want)) {
		t.Errorf("%s: from %d on %v of %d, want %v of %d", what, i, got[i:min(i+3, len(got))], len(got), want[i:min(i+3, len(want))], len(want))
	}
}

// it is an item whose bytes say its name, and are of some length.
func it(r int, seq uint32) item {
	return item{name(r, seq), strconv.Itoa(r) + ":" + strconv.Itoa(int(seq)) + strings.Repeat(".", int(seq%4))}
}

// its are items of one replica.
func its(r int, seqs ...uint32) []item {
	var l []item
	for _, seq := range seqs {
		l = append(l, it(r, seq))
	}
	return l
}

// plain is the reference for a log: what was put, in the order in which it came.
type plain []item

func (p plain) place(id txn.ID) int {
	return slices.IndexFunc(p, func(x item) bool { return x.id == id })
}

func (p *plain) put(x item) api.Errno {
	if p.place(x.id) >= 0 {
		return api.ErrTwice
	}
	if len(*p) == room {
		return api.ErrFull
	}
	*p = append(*p, x)
	return api.OK
}

func (p plain) size() int {
	n := 0
	for _, x := range p {
		n += len(x.text)
	}
	return n
}

// reply goes through all that is kept, where the program goes through the gap.
func (p plain) reply(g vector.Gap, most int) []string {
	var l []item
	for _, x := range p {
		if x.id.R == g.R && x.id.Seq >= g.From && x.id.Seq <= g.To {
			l = append(l, x)
		}
	}
	slices.SortFunc(l, func(a, b item) int { return int(int64(a.id.Seq) - int64(b.id.Seq)) })
	return texts(l[:max(0, min(most, len(l)))])
}

func texts(l []item) []string {
	var s []string
	for _, x := range l {
		s = append(s, x.text)
	}
	return s
}

func asTexts(l [][]byte) []string {
	var s []string
	for _, b := range l {
		s = append(s, string(b))
	}
	return s
}

// spoil changes all memory that bytes lead to, spare room too.
func spoil(b []byte) {
	b = b[:cap(b)]
	for i := range b {
		b[i] ^= 0xff
	}
}

// put hands in bytes with spare room, looks at both being left as they are, and changes them all.
func put(t *testing.T, l *Log, x item) api.Errno {
	t.Helper()
	b := append([]byte(x.text), "spare room"...)[:len(x.text)]
	got := l.Put(x.id, b)
	if string(b[:len(x.text)+10]) != x.text+"spare room" {
		t.Fatalf("Put of %v changed what was handed in: %q", x.id, b[:len(x.text)+10])
	}
	spoil(b)
	return got
}

// puts are to be taken, all of them.
func puts(t *testing.T, l *Log, all ...item) {
	t.Helper()
	for _, x := range all {
		if e := put(t, l, x); e != api.OK {
			t.Fatalf("Put of %v: %d", x.id, e)
		}
	}
}

// refuses looks at what Put tells of one that isn't to be taken.
func refuses(t *testing.T, l *Log, x item, want api.Errno) {
	t.Helper()
	if e := put(t, l, x); e != want {
		t.Errorf("Put of %v: %d, want %d", x.id, e, want)
	}
}

// gets looks at the bytes of one that is kept, and changes them.
func gets(t *testing.T, l *Log, want item) {
	t.Helper()
	b, ok := l.Get(want.id)
	if !ok || string(b) != want.text {
		t.Errorf("Get of %v: %q, %t, want %q", want.id, b, ok, want.text)
	}
	spoil(b)
}

func getsNone(t *testing.T, l *Log, id txn.ID) {
	t.Helper()
	if b, ok := l.Get(id); ok || len(b) > 0 {
		t.Errorf("Get of %v: %q, %t", id, b, ok)
	}
}

// replies looks at what is told of a gap, and changes it.
func replies(t *testing.T, l *Log, g vector.Gap, most int, want ...string) {
	t.Helper()
	got := l.Reply(g, most)
	if !slices.Equal(asTexts(got), want) {
		t.Errorf("Reply of %v, at most %d: %q, want %q", g, most, asTexts(got), want)
	}
	for _, b := range got {
		spoil(b)
	}
	clear(got[:cap(got)])
}

// come are those that All tells, as far as the first most; what is told is changed.
func come(l *Log, most int) []item {
	var got []item
	if most < 1 {
		return nil
	}
	for id, b := range l.All() {
		got = append(got, item{id, string(b)})
		spoil(b)
		if len(got) == most {
			break
		}
	}
	return got
}

// counts looks at Len and Size.
func counts(t *testing.T, l *Log, length, size int) {
	t.Helper()
	if l.Len() != length || l.Size() != size {
		t.Errorf("Len %d, Size %d, want %d, %d", l.Len(), l.Size(), length, size)
	}
}

// keeps looks at all that a log tells of what it keeps: just these, in this order.
func keeps(t *testing.T, l *Log, want ...item) {
	t.Helper()
	counts(t, l, len(want), plain(want).size())
	same(t, "All", come(l, len(want)+1), want)
	for _, x := range want {
		gets(t, l, x)
		replies(t, l, gap(int(x.id.R), x.id.Seq, x.id.Seq), 9, x.text)
	}
}

func TestChapterExample(t *testing.T) { // P12.1, P12.2
	for _, all := range [][]item{{it(1, 1), it(1, 3)}, {it(1, 3), it(1, 1)}} {
		var l Log
		puts(t, &l, all...)
		replies(t, &l, gap(1, 1, 3), 9, it(1, 1).text, it(1, 3).text)
		keeps(t, &l, all...)
	}
}

func TestZeroLog(t *testing.T) { // P12.1, P12.2: each call as the first one, and again, and what comes of it
	for i, first := range []func(l *Log){
		func(l *Log) { counts(t, l, 0, 0) },
		func(l *Log) { getsNone(t, l, name(0, 0)) },
		func(l *Log) { getsNone(t, l, name(1, 1)) },
		func(l *Log) { replies(t, l, gap(0, 0, far), 9) },
		func(l *Log) { replies(t, l, gap(1, 1, 5), math.MaxInt) },
		func(l *Log) { l.All() },
		func(l *Log) { keeps(t, l) },
	} {
		var l, other Log
		first(&l)
		first(&l)
		keeps(t, &l)
		puts(t, &l, it(7, 7))
		keeps(t, &l, it(7, 7))
		keeps(t, &other) // what one keeps, another one doesn't
		puts(t, &other, it(7, 8), it(7, 7))
		keeps(t, &other, it(7, 8), it(7, 7))
		keeps(t, &l, it(7, 7))
		if t.Failed() {
			t.Fatal(i)
		}
	}
	for _, x := range []item{it(1, 1), it(0, 0), {name(0, 0), ""}, it(mostReplica, mostNumber)} {
		var l Log
		puts(t, &l, x)
		keeps(t, &l, x)
	}
}

func TestPutTwice(t *testing.T) { // P12.1: the first bytes stay
	for _, kept := range []string{"", "one", "two, longer"} {
		for _, again := range []string{"", "one", "eno", "two, longer", "one and more"} {
			var l Log
			all := []item{it(1, 4), {name(1, 5), kept}, it(2, 5)}
			for i, x := range all {
				puts(t, &l, x)
				for _, x := range all[:i+1] {
					refuses(t, &l, x, api.ErrTwice)
					refuses(t, &l, item{x.id, again}, api.ErrTwice)
					keeps(t, &l, all[:i+1]...)
				}
			}
		}
	}
}

func TestNilAndEmpty(t *testing.T) { // P12.1: they are kept too, and are one
	for _, b := range [][]byte{nil, {}, []byte("full")[:0]} {
		var l Log
		if e := l.Put(name(3, 1), b); e != api.OK {
			t.Fatal(e)
		}
		keeps(t, &l, item{name(3, 1), ""})
		for _, again := range [][]byte{nil, {}, []byte("full")} {
			if e := l.Put(name(3, 1), again); e != api.ErrTwice {
				t.Error(e)
			}
			keeps(t, &l, item{name(3, 1), ""})
		}
		puts(t, &l, it(3, 2), item{name(3, 3), ""}, item{name(2, 1), ""})
		keeps(t, &l, item{name(3, 1), ""}, it(3, 2), item{name(3, 3), ""}, item{name(2, 1), ""})
		replies(t, &l, gap(3, 1, 3), 9, "", it(3, 2).text, "")
		replies(t, &l, gap(3, 1, 3), 1, "") // it counts as one
		if b, ok := l.Get(name(3, 1)); !ok || len(b) > 0 {
			t.Error(b, ok)
		}
	}
}

// orders calls f with a list in each order that there is.
func orders(l []item, from int, f func([]item)) {
	if from == len(l) {
		f(l)
	}
	for i := from; i < len(l); i++ {
		l[from], l[i] = l[i], l[from]
		orders(l, from+1, f)
		l[from], l[i] = l[i], l[from]
	}
}

func TestNamesInAnyOrder(t *testing.T) { // P12.1, P12.2: All as they came, Reply by rising Seq, of its replica alone
	near := its(1, 256, 257, 1, 513, 65537)
	wide := []item{it(0, 1), it(1, 0), it(1, 1), it(256, 1), it(mostReplica, mostNumber)}
	for _, all := range [][]item{near, wide, {it(2, 1), it(1, 2), it(1, 1), it(2, 2), it(3, 1)}} {
		orders(slices.Clone(all), 0, func(l []item) {
			var got Log
			for i, x := range l {
				getsNone(t, &got, x.id)
				puts(t, &got, x)
				keeps(t, &got, l[:i+1]...)
			}
			for _, x := range all {
				for _, g := range []vector.Gap{gap(int(x.id.R), x.id.Seq, x.id.Seq), gap(int(x.id.R), 0, far), gap(int(x.id.R), x.id.Seq-min(x.id.Seq, 2), x.id.Seq)} {
					replies(t, &got, g, 9, plain(l).reply(g, 9)...)
				}
			}
			if t.Failed() {
				t.Fatal(l)
			}
		})
	}
}

func TestGet(t *testing.T) { // P12.1
	var l Log
	all := []item{it(5, 3), it(5, 1), it(4, 3), it(0, 7), it(7, 0), it(mostReplica, mostSeq), it(9, mostNumber), {name(6, 6), ""}}
	puts(t, &l, all...)
	for range 2 {
		for _, id := range []txn.ID{{}, name(5, 0), name(5, 2), name(5, 4), name(4, 1), name(3, 5), name(1, 5), name(0, 0), name(7, 7), name(0, 5), name(6, 5), name(mostReplica, mostSeq-1), name(mostReplica, mostNumber), name(9, mostSeq), name(mostReplica-1, mostSeq), name(5, 3+65536), name(5, 3+1<<31)} {
			getsNone(t, &l, id)
		}
		for _, x := range all {
			gets(t, &l, x)
			gets(t, &l, x)
		}
		keeps(t, &l, all...) // to be asked changes nothing
	}
}

func TestLenAndSize(t *testing.T) { // P12.1: behind each call, also one that is refused
	var l Log
	for i, x := range []struct {
		id           txn.ID
		text         string
		want         api.Errno
		length, size int
	}{
		{name(1, 1), "abc", api.OK, 1, 3}, {name(1, 1), "abc", api.ErrTwice, 1, 3}, {name(1, 1), "longer", api.ErrTwice, 1, 3}, {name(1, 2), "", api.OK, 2, 3}, {name(1, 2), "x", api.ErrTwice, 2, 3}, {name(2, 1), "abc", api.OK, 3, 6}, {name(2, 2), strings.Repeat("q", 70000), api.OK, 4, 70006}, {name(2, 2), "", api.ErrTwice, 4, 70006}, {name(0, 0), "z", api.OK, 5, 70007}, {name(0, 0), "", api.ErrTwice, 5, 70007},
	} {
		refuses(t, &l, item{x.id, x.text}, x.want)
		counts(t, &l, x.length, x.size)
		l.Get(x.id)
		l.Get(name(9, 9))
		l.Reply(gap(2, 0, 9), 9)
		come(&l, 2)
		counts(t, &l, x.length, x.size)
		if t.Failed() {
			t.Fatal(i)
		}
	}
}

// filled is a log with room for so many more, and what it keeps.
func filled(t *testing.T, left int) (*Log, plain) {
	t.Helper()
	var l Log
	var p plain
	for i := range room - left {
		p = append(p, it(i%3, uint32(i/3*2+1)))
	}
	puts(t, &l, p...)
	return &l, p
}

func TestRoom(t *testing.T) { // P12.1
	l, p := filled(t, 2)
	counts(t, l, room-2, p.size())
	for i, x := range []item{it(7, 7), {name(8, 8), ""}} { // as many as there is room for
		refuses(t, l, p[i], api.ErrTwice)
		puts(t, l, x)
		p = append(p, x)
		counts(t, l, room-1+i, p.size())
	}
	for range 2 {
		for _, x := range []item{it(9, 9), {name(9, 8), ""}, it(0, 2), it(0, mostNumber), it(mostReplica, 1)} { // one more
			refuses(t, l, x, api.ErrFull)
			getsNone(t, l, x.id)
			counts(t, l, room, p.size())
		}
		for _, x := range []item{p[0], p[1], p[room/2], p[room-2], p[room-1]} { // a name that is kept
			refuses(t, l, x, api.ErrTwice)
			refuses(t, l, item{x.id, "other"}, api.ErrTwice)
			gets(t, l, x)
			counts(t, l, room, p.size())
		}
	}
	keeps(t, l, p...)
	for _, g := range []vector.Gap{gap(0, 1, 1001), gap(2, 9999, 10999), gap(8, 8, 8), gap(9, 0, 900)} {
		replies(t, l, g, room, p.reply(g, room)...)
		replies(t, l, g, 3, p.reply(g, 3)...)
	}
}

func TestReply(t *testing.T) { // P12.2
	var l Log
	all := slices.Concat(its(1, 9, 2, 5, 1, 3), its(2, 4, 3, 7), its(0, 5), its(257, 6), its(mostReplica, 3, 5))
	puts(t, &l, all...)
	for i, x := range []struct {
		g    vector.Gap
		want []item
	}{
		{gap(1, 1, 9), its(1, 1, 2, 3, 5, 9)}, {gap(1, 0, 10), its(1, 1, 2, 3, 5, 9)}, {gap(1, 0, far), its(1, 1, 2, 3, 5, 9)}, {gap(1, 2, 8), its(1, 2, 3, 5)}, {gap(1, 2, 5), its(1, 2, 3, 5)}, {gap(1, 3, 9), its(1, 3, 5, 9)}, {gap(1, 4, 8), its(1, 5)}, {gap(1, 9, far), its(1, 9)},
		{gap(1, 1, 1), its(1, 1)}, {gap(1, 9, 9), its(1, 9)}, {gap(1, 5, 6), its(1, 5)}, {gap(1, 4, 5), its(1, 5)}, {gap(1, 1, 2), its(1, 1, 2)}, // one, at each end of the gap
		{gap(1, 0, 0), nil}, {gap(1, 4, 4), nil}, {gap(1, 6, 8), nil}, {gap(1, 10, 1010), nil}, {gap(3, 1, 9), nil}, {gap(3, 0, far), nil}, {gap(2, 5, 6), nil}, {gap(2, 8, mostNumber), nil}, // none is kept
		{gap(1, 2, 1), nil}, {gap(1, 3, 2), nil}, {gap(1, 9, 1), nil}, {gap(1, 9, 0), nil}, {gap(1, 5, 4), nil}, {gap(1, mostNumber, 0), nil}, {gap(1, mostNumber, 1), nil}, {gap(1, mostNumber, mostNumber-1), nil}, {gap(1, 1, 0), nil}, {gap(1, mostSeq, 3), nil}, // empty, or turned around
		{gap(2, 1, 9), its(2, 3, 4, 7)}, {gap(2, 4, 7), its(2, 4, 7)}, {gap(0, 1, 9), its(0, 5)}, {gap(257, 1, 9), its(257, 6)}, {gap(256, 1, 9), nil}, {gap(mostReplica, 0, far), its(mostReplica, 3, 5)}, {gap(mostReplica-1, 0, far), nil}, {gap(mostReplica, 4, 1004), its(mostReplica, 5)}, // of others
	} {
		for _, most := range []int{len(x.want), len(x.want) + 1, len(x.want) + 2, 100, math.MaxInt32, math.MaxInt} {
			replies(t, &l, x.g, most, texts(x.want)...)
		}
		for most := range x.want {
			replies(t, &l, x.g, most, texts(x.want[:most])...)
		}
		for _, most := range []int{0, -1, -5, math.MinInt32, math.MinInt} {
			replies(t, &l, x.g, most)
		}
		if t.Failed() {
			t.Fatal(i)
		}
	}
	keeps(t, &l, all...) // to be asked changes nothing
}

func TestReplyAtTheEnds(t *testing.T) { // P12.2: from 0, up to the greatest Seq, and as far as To may be
	for _, from := range []uint32{0, 1, 2, 999, 65000, mostSeq - 1000, mostSeq - 999, mostSeq, mostNumber - 1001, mostNumber - 1000} {
		var l Log
		var all []item
		for _, n := range []uint32{1000, 0, 500, 1, 999} {
			all = append(all, it(4, from+n), it(5, from+n))
		}
		puts(t, &l, all...)
		for _, x := range []struct {
			g    vector.Gap
			want []uint32
		}{
			{gap(4, from, from+1000), []uint32{0, 1, 500, 999, 1000}}, {gap(4, from, from+999), []uint32{0, 1, 500, 999}}, {gap(4, from, from+998), []uint32{0, 1, 500}}, {gap(4, from+1, from+1000), []uint32{1, 500, 999, 1000}}, {gap(4, from+501, from+1000), []uint32{999, 1000}}, {gap(4, from+1000, from+1000), []uint32{1000}}, {gap(4, from, from), []uint32{0}}, {gap(4, from+2, from+499), nil},
		} {
			var want []string
			for _, n := range x.want {
				want = append(want, it(4, from+n).text)
			}
			replies(t, &l, x.g, 9, want...)
			replies(t, &l, x.g, 1, want[:min(1, len(want))]...)
		}
		if t.Failed() {
			t.Fatal(from)
		}
	}
	var l Log // all of the last numbers that there are
	var want []string
	for n := uint32(mostNumber); n >= mostNumber-10; n-- {
		puts(t, &l, it(8, n))
		want = append(want, it(8, n).text)
	}
	puts(t, &l, it(8, 0), it(8, 1), it(9, mostNumber))
	slices.Reverse(want)
	for _, from := range []uint32{mostNumber - 1000, mostNumber - 11, mostNumber - 10} {
		replies(t, &l, gap(8, from, mostNumber), 99, want...)
		replies(t, &l, gap(8, from, mostNumber-1), 99, want[:10]...)
	}
	for n := range uint32(10) {
		replies(t, &l, gap(8, mostNumber-n, mostNumber), 99, want[10-n:]...)
	}
	replies(t, &l, gap(8, 0, 1), 99, it(8, 0).text, it(8, 1).text)
	replies(t, &l, gap(8, 0, 0), 99, it(8, 0).text)
}

func TestReplyOfFarGaps(t *testing.T) { // P1: nothing is promised of them, but that the call ends; it tells what it does of the first 1,001 numbers
	var l Log
	puts(t, &l, its(1, 1, 1001, 1002, 5000, mostSeq, mostNumber, 0)...)
	for range 200 {
		for _, to := range []uint32{1002, 1003, 5000, 70000, mostSeq, mostNumber - 1, mostNumber} {
			replies(t, &l, gap(1, 1, to), 9, it(1, 1).text, it(1, 1001).text)
			replies(t, &l, gap(1, 1, to), 1, it(1, 1).text)
			replies(t, &l, gap(1, 1, to), 0)
			replies(t, &l, gap(1, 0, to), 9, it(1, 0).text, it(1, 1).text)
			replies(t, &l, gap(1, 0, to), math.MaxInt, it(1, 0).text, it(1, 1).text)
			replies(t, &l, gap(2, 0, to), 9)
		}
		replies(t, &l, gap(1, mostSeq+1, mostNumber), 9)
		replies(t, &l, gap(1, mostSeq, mostNumber), 9, it(1, mostSeq).text)
		replies(t, &l, gap(1, mostNumber-1001, mostNumber), 9)
	}
}

func TestReplyOfALongGap(t *testing.T) { // P12.2: as many as a gap may have
	var l Log
	var want []string
	for n := range uint32(3000) {
		seq := (n*7 + 5) % 3000
		puts(t, &l, it(1, seq), it(2, seq))
	}
	for n := range uint32(1001) {
		want = append(want, it(2, n+700).text)
	}
	for _, most := range []int{0, 1, 2, 64, 500, 1000, 1001, 1002, 5000, math.MaxInt} {
		replies(t, &l, gap(2, 700, 1700), most, want[:min(most, 1001)]...)
		replies(t, &l, gap(2, 700, 1699), most, want[:min(most, 1000)]...)
	}
}

func TestAll(t *testing.T) { // P12.2: to the end, not at all, and stopped behind any one
	for _, all := range [][]item{nil, {it(1, 1)}, {{name(0, 0), ""}}, {it(1, 3), it(1, 1), it(0, 9), {name(7, 2), ""}, it(1, 2), it(mostReplica, mostNumber)}} {
		var l Log
		puts(t, &l, all...)
		told := l.All()
		for most := range len(all) + 2 {
			want := all[:min(most, len(all))]
			same(t, "the first ones", come(&l, most), want)
			var got []item // by hand, where one too many would be seen
			calls := 0
			told(func(id txn.ID, b []byte) bool {
				calls++
				got = append(got, item{id, string(b)})
				return calls < most
			})
			same(t, "asked by hand", got, all[:min(max(most, 1), len(all))])
			keeps(t, &l, all...) // to be asked changes nothing
		}
		for first, b := range told { // one within another one
			n := 0
			for id, c := range told {
				if id != all[n].id || string(c) != all[n].text {
					t.Errorf("%d: %v, %q", n, id, c)
				}
				spoil(c)
				n++
			}
			if n != len(all) || string(b) != all[slices.IndexFunc(all, func(x item) bool { return x.id == first })].text {
				t.Errorf("%d of %d, %q", n, len(all), b)
			}
		}
	}
}

func TestAllIsNotChangedByLaterCalls(t *testing.T) { // what was told is what there was then
	var l Log
	var all []item
	var told []func(func(txn.ID, []byte) bool)
	for i := range 20 {
		told = append(told, l.All())
		all = append(all, it(i%3, uint32(20-i)))
		puts(t, &l, all[i])
	}
	for i, f := range told {
		var got []item
		for id, b := range f {
			got = append(got, item{id, string(b)})
		}
		same(t, "All, as it was", got, all[:i])
	}
	keeps(t, &l, all...)
}

func TestMemoryHandedIn(t *testing.T) { // what is handed in is neither changed nor kept, its spare room neither
	b := append([]byte("one"), "two and three"...)
	want := string(b)
	var l Log
	for i, x := range []struct {
		b    []byte
		want api.Errno
	}{{b[:3], api.OK}, {b[3:6], api.OK}, {b, api.OK}, {b[:0], api.OK}, {b[6:6:6], api.OK}} { // of one memory
		id := name(1, uint32(i))
		if e := l.Put(id, x.b); e != x.want {
			t.Fatal(i, e)
		}
		if e := l.Put(id, b[6:]); e != api.ErrTwice {
			t.Fatal(i, e)
		}
		if string(b) != want {
			t.Fatalf("Put changed what was handed in: %q", b)
		}
	}
	all := []item{{name(1, 0), "one"}, {name(1, 1), "two"}, {name(1, 2), want}, {name(1, 3), ""}, {name(1, 4), ""}}
	keeps(t, &l, all...)
	if string(b) != want { // keeps spoils all that it is told, its spare room too
		t.Errorf("what was told shares memory with what was handed in: %q", b)
	}
	spoil(b)
	keeps(t, &l, all...)
	_ = append(b[:3], "xyz"...)
	keeps(t, &l, all...)
}

// answers are all that a log tells of its bytes, by each of its calls.
func answers(l *Log, p plain) [][]byte {
	var all [][]byte
	for _, x := range p {
		b, _ := l.Get(x.id)
		all = append(all, b)
		all = append(all, l.Reply(gap(int(x.id.R), x.id.Seq, x.id.Seq+min(far, mostNumber-x.id.Seq)), 9)...)
	}
	for _, b := range l.All() {
		all = append(all, b)
	}
	return all
}

func TestMemoryTold(t *testing.T) { // what is told is new memory, no two share any, and later calls don't change it
	var l Log
	p := plain{it(1, 2), it(1, 1), {name(2, 1), ""}, it(1, 3), {name(1, 9), strings.Repeat("long", 100)}, it(2, 2), it(0, 0)}
	puts(t, &l, p...)
	all := append(answers(&l, p), answers(&l, p)...)
	want := asTexts(all)
	for i := range all {
		b := all[i]
		spoil(b)
		if len(b) > 0 && string(b) == want[i] {
			t.Fatal(i)
		}
		_ = append(b, "behind it"...)
		spoil(b)
		if got := asTexts(all); !slices.Equal(got, want) {
			t.Fatalf("%d shares memory with another one: %q", i, got)
		}
	}
	for _, x := range p {
		refuses(t, &l, x, api.ErrTwice)
	}
	more := plain{it(1, 4), it(3, 1), it(2, 9), {name(4, 4), strings.Repeat("more", 99)}}
	puts(t, &l, more...)
	if got := asTexts(all); !slices.Equal(got, want) {
		t.Errorf("later calls changed what was told: %q", got)
	}
	lists := [][][]byte{l.Reply(gap(1, 1, 9), 3), l.Reply(gap(1, 1, 9), 3)}
	_ = append(lists[0], []byte("one more"))
	clear(lists[0][:cap(lists[0])])
	if got := asTexts(lists[1]); !slices.Equal(got, texts(its(1, 1, 2, 3))) {
		t.Errorf("two answers share a list: %q", got)
	}
	for _, b := range all {
		spoil(b)
	}
	keeps(t, &l, slices.Concat(p, more)...)
}

func pick[T any](src *rand.Rand, l ...T) T { return l[src.Intn(len(l))] }

// field is where a run's names are from: of so many replicas, with a Seq from a number on, of so many.
type field struct {
	replicas int
	from     uint32
	wide     int64
}

func (f field) name(src *rand.Rand) txn.ID {
	return name(src.Intn(f.replicas), f.from+uint32(src.Int63n(f.wide)))
}

// gap is of any kind that something is promised of: around a name, turned around, and as far as may be.
func (f field) gap(src *rand.Rand, p plain) vector.Gap {
	id := f.name(src)
	if len(p) > 0 && src.Intn(2) == 0 {
		id = pick(src, p...).id
	}
	from := id.Seq - min(id.Seq, pick(src, 0, 0, 1, uint32(src.Intn(20)), uint32(src.Intn(far+1))))
	to := from + min(mostNumber-from, pick(src, 0, 1, uint32(src.Intn(20)), uint32(src.Intn(far+1)), far))
	if src.Intn(8) == 0 {
		to = from - min(from, pick(src, 1, uint32(src.Intn(20)), src.Uint32()))
	}
	return vector.Gap{R: id.R, From: from, To: to}
}

func someText(src *rand.Rand) string {
	b := make([]byte, pick(src, 0, 1, 2, src.Intn(30), src.Intn(30), src.Intn(3000)))
	src.Read(b)
	return string(b)
}

// step does one call of any kind of both, and tells which it was, and of what answer.
func step(t *testing.T, src *rand.Rand, l *Log, p *plain, f field) string {
	t.Helper()
	x := item{f.name(src), someText(src)}
	if len(*p) > 0 && src.Intn(4) == 0 {
		x.id = pick(src, *p...).id
	}
	switch src.Intn(8) {
	default:
		want := p.put(x)
		refuses(t, l, x, want)
		return map[api.Errno]string{api.OK: "put", api.ErrTwice: "put again", api.ErrFull: "put, full"}[want]
	case 0, 1:
		if i := p.place(x.id); i >= 0 {
			gets(t, l, (*p)[i])
			return "get"
		}
		getsNone(t, l, x.id)
		return "get none"
	case 2, 3:
		g, most := f.gap(src, *p), pick(src, math.MinInt, -1, 0, 1, 2, src.Intn(20), 64, math.MaxInt)
		want := p.reply(g, most)
		replies(t, l, g, most, want...)
		return "reply" + map[bool]string{true: "", false: " none"}[len(want) > 0]
	case 4:
		most := src.Intn(len(*p) + 2)
		same(t, "All, the first ones", come(l, most), (*p)[:min(most, len(*p))])
		return "all" + map[bool]string{true: "", false: ", stopped"}[most > len(*p)]
	}
}

func TestLongRuns(t *testing.T) { // P12.1, P12.2: calls of any kind, against the reference
	src := rand.New(rand.NewSource(12))
	seen := map[string]int{}
	for range 40 {
		for _, f := range []field{{1, 0, 30}, {1, 1, 300}, {2, 1, 60}, {3, 1, 3000}, {9, 0, 12}, {mostReplica + 1, 0, 9}, {4, mostSeq - 50, 51}, {2, mostNumber - 80, 81}, {2, 0, mostNumber + 1}, {mostReplica + 1, 0, mostNumber + 1}} {
			var l Log
			var p plain
			for range 300 {
				seen[step(t, src, &l, &p, f)]++
				counts(t, &l, len(p), p.size())
				if t.Failed() {
					t.Fatal(f)
				}
			}
			keeps(t, &l, p...)
		}
	}
	for _, what := range []string{"put", "put again", "get", "get none", "reply", "reply none", "all", "all, stopped"} {
		if seen[what] < 100 {
			t.Errorf("%s: only %d times", what, seen[what])
		}
	}
}

func TestLongRunWhereThereIsLittleRoom(t *testing.T) { // P12.1, P12.2
	src := rand.New(rand.NewSource(121))
	l, p := filled(t, 40)
	seen := map[string]int{}
	for range 600 {
		seen[step(t, src, l, &p, field{4, 1, 60000})]++
		counts(t, l, len(p), p.size())
		if t.Failed() {
			t.FailNow()
		}
	}
	for _, what := range []string{"put", "put again", "put, full", "get", "get none", "reply", "reply none", "all, stopped"} {
		if seen[what] < 10 {
			t.Errorf("%s: only %d times", what, seen[what])
		}
	}
	keeps(t, l, p...)
}

func TestEndsAtAnyArguments(t *testing.T) { // P1
	var l Log
	seqs := []uint32{0, 1, 2, far, far + 1, mostSeq, mostSeq + 1, 1 << 31, mostNumber - 1, mostNumber}
	for i, seq := range seqs {
		for _, r := range []int{0, 1, mostReplica} {
			l.Put(name(r, seq), make([]byte, i*100000))
			l.Put(name(r, seq), nil)
			l.Get(name(r, seq+1))
		}
	}
	for _, from := range seqs {
		for _, to := range seqs {
			for _, most := range []int{math.MinInt, -1, 0, 1, 5, math.MaxInt} {
				for _, r := range []int{0, 7, mostReplica} {
					l.Reply(gap(r, from, to), most)
				}
			}
		}
	}
	counts(t, &l, len(come(&l, math.MaxInt)), 3*4500000)
}
