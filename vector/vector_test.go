package vector

import (
	"math"
	"math/rand"
	"slices"
	"strconv"
	"strings"
	"testing"
)

// The bounds as the document says them, not as the program does.
const (
	lastSeq = 268435456 // MaxSeq
	lastR   = 65535
)

// same holds two vectors against each other; nil and empty ones are one.
func same(a, b Vector) bool { return slices.Equal(a, b) }

func TestRight(t *testing.T) { // P2.1
	for _, x := range []struct {
		v    Vector
		want bool
	}{
		{nil, true},
		{Vector{}, true},
		{Vector{{1, 1}}, true},
		{Vector{{0, 1}}, true},
		{Vector{{lastR, lastSeq}}, true},
		{Vector{{0, lastSeq - 1}, {1, 1}, {lastR, lastSeq}}, true},
		{Vector{{1, 9}, {2, 1}, {3, 5}}, true},
		{Vector{{1, 0}}, false},
		{Vector{{1, lastSeq + 1}}, false},
		{Vector{{1, math.MaxUint32}}, false},
		{Vector{{1, 1}, {2, 0}}, false},
		{Vector{{1, 0}, {2, 1}}, false},
		{Vector{{1, 1}, {2, lastSeq + 1}, {3, 1}}, false},
		{Vector{{2, 1}, {1, 1}}, false},
		{Vector{{1, 1}, {3, 1}, {2, 1}}, false},
		{Vector{{3, 1}, {1, 1}, {2, 1}}, false},
		{Vector{{2, 1}, {2, 1}}, false},
		{Vector{{2, 1}, {2, 2}}, false},
		{Vector{{0, 1}, {0, 1}}, false},
		{Vector{{lastR, 1}, {0, 1}}, false},
		{Vector{{1, 1}, {lastR, 1}, {lastR, 1}}, false},
	} {
		if got := x.v.Right(); got != x.want {
			t.Errorf("%v.Right() = %v", x.v, got)
		}
	}
}

func TestGet(t *testing.T) { // P2.1
	v := Vector{{0, 4}, {3, 1}, {7, lastSeq}, {lastR, 2}}
	for r := 0; r <= lastR; r++ {
		want := uint32(0)
		switch r {
		case 0:
			want = 4
		case 3:
			want = 1
		case 7:
			want = lastSeq
		case lastR:
			want = 2
		}
		if got := v.Get(uint16(r)); got != want {
			t.Errorf("Get(%d) = %d, want %d", r, got, want)
		}
		if got := Vector(nil).Get(uint16(r)); got != 0 {
			t.Errorf("of nothing Get(%d) = %d", r, got)
		}
	}
}

func TestWith(t *testing.T) { // P2.1
	v := Vector{{1, 2}, {5, 7}}
	for _, x := range []struct {
		v    Vector
		r    uint16
		seq  uint32
		want Vector
	}{
		{nil, 0, 0, nil},
		{Vector{}, 4, 0, nil},
		{nil, 0, 1, Vector{{0, 1}}},
		{nil, lastR, lastSeq, Vector{{lastR, lastSeq}}},
		{Vector{{4, 1}}, 4, 0, nil},
		{v, 1, 1, Vector{{1, 1}, {5, 7}}},
		{v, 1, 2, Vector{{1, 2}, {5, 7}}},
		{v, 1, 9, Vector{{1, 9}, {5, 7}}},
		{v, 5, 1, Vector{{1, 2}, {5, 1}}},
		{v, 5, lastSeq, Vector{{1, 2}, {5, lastSeq}}},
		{v, 1, 0, Vector{{5, 7}}},
		{v, 5, 0, Vector{{1, 2}}},
		{v, 0, 0, v},
		{v, 3, 0, v},
		{v, 9, 0, v},
		{v, lastR, 0, v},
		{v, 0, 3, Vector{{0, 3}, {1, 2}, {5, 7}}},
		{v, 2, 3, Vector{{1, 2}, {2, 3}, {5, 7}}},
		{v, 4, 3, Vector{{1, 2}, {4, 3}, {5, 7}}},
		{v, 6, 3, Vector{{1, 2}, {5, 7}, {6, 3}}},
		{v, lastR, 3, Vector{{1, 2}, {5, 7}, {lastR, 3}}},
		{Vector{{1, 2}, {3, 4}, {5, 6}}, 3, 0, Vector{{1, 2}, {5, 6}}},
	} {
		got := x.v.With(x.r, x.seq)
		if !same(got, x.want) || !got.Right() {
			t.Errorf("%v.With(%d, %d) = %v, want %v", x.v, x.r, x.seq, got, x.want)
		}
		if got.Get(x.r) != x.seq {
			t.Errorf("%v.With(%d, %d) knows %d", x.v, x.r, x.seq, got.Get(x.r))
		}
	}
}

func TestJoin(t *testing.T) { // P2.1
	for _, x := range []struct {
		v    Vector
		more []Vector
		want Vector
	}{
		{Vector{{1, 2}, {2, 1}}, []Vector{{{2, 3}}}, Vector{{1, 2}, {2, 3}}}, // the chapter's example
		{nil, nil, nil},
		{nil, []Vector{nil, {}, nil}, nil},
		{Vector{{1, 2}}, nil, Vector{{1, 2}}},
		{Vector{{1, 2}}, []Vector{nil}, Vector{{1, 2}}},
		{nil, []Vector{{{1, 2}}}, Vector{{1, 2}}},
		{Vector{{1, 2}, {5, 7}}, []Vector{{{1, 3}, {4, 1}, {5, 6}}}, Vector{{1, 3}, {4, 1}, {5, 7}}},
		{Vector{{1, 3}, {4, 1}, {5, 6}}, []Vector{{{1, 2}, {5, 7}}}, Vector{{1, 3}, {4, 1}, {5, 7}}},
		{Vector{{5, 1}}, []Vector{{{1, 1}}, {{9, 1}}, {{3, 1}}}, Vector{{1, 1}, {3, 1}, {5, 1}, {9, 1}}},
		{Vector{{2, 1}}, []Vector{{{2, 5}}, {{2, 3}}}, Vector{{2, 5}}},
		{Vector{{2, 5}}, []Vector{{{2, 1}}, {{2, 3}}}, Vector{{2, 5}}},
		{Vector{{2, 1}}, []Vector{{{2, 3}}, {{2, 5}}}, Vector{{2, 5}}},
		{Vector{{0, lastSeq}}, []Vector{{{0, 1}, {lastR, 1}}, {{lastR, lastSeq}}}, Vector{{0, lastSeq}, {lastR, lastSeq}}},
		{Vector{{2, 2}}, []Vector{{{2, 2}}, {{2, 2}}}, Vector{{2, 2}}},
	} {
		if got := x.v.Join(x.more...); !same(got, x.want) {
			t.Errorf("%v.Join(%v) = %v, want %v", x.v, x.more, got, x.want)
		}
	}
}

func TestStandsAndCovers(t *testing.T) { // P2.2
	none := Vector(nil)
	low := Vector{{1, 2}, {5, 7}}
	high := Vector{{1, 3}, {4, 1}, {5, 7}}
	other := Vector{{1, 9}, {5, 6}}
	first, last := Vector{{0, 1}}, Vector{{lastR, lastSeq}}
	for _, x := range []struct {
		v, w Vector
		want int
	}{
		{none, none, 1},
		{none, Vector{}, 1},
		{Vector{}, none, 1},
		{low, slices.Clone(low), 1},
		{last, slices.Clone(last), 1},
		{none, low, 2},
		{none, first, 2},
		{low, high, 2},
		{Vector{{1, 2}}, low, 2},
		{Vector{{5, 7}}, low, 2},
		{Vector{{lastR, lastSeq - 1}}, last, 2},
		{low, none, 3},
		{high, low, 3},
		{low, Vector{{1, 2}}, 3},
		{low, Vector{{5, 7}}, 3},
		{last, Vector{{lastR, 1}}, 3},
		{low, other, 4},
		{other, low, 4},
		{high, other, 4},
		{first, last, 4},
		{last, first, 4},
		{Vector{{1, 2}, {5, 7}}, Vector{{1, 2}, {4, 7}}, 4},
	} {
		if got := x.v.Stands(x.w); got != x.want {
			t.Errorf("%v.Stands(%v) = %d, want %d", x.v, x.w, got, x.want)
		}
		if got, want := x.v.Covers(x.w), x.want == 1 || x.want == 3; got != want {
			t.Errorf("%v.Covers(%v) = %v", x.v, x.w, got)
		}
		if got, want := x.w.Covers(x.v), x.want == 1 || x.want == 2; got != want {
			t.Errorf("%v.Covers(%v) = %v", x.w, x.v, got)
		}
	}
	if Same != 1 || Behind != 2 || Ahead != 3 || Apart != 4 {
		t.Error("how vectors stand is numbered otherwise")
	}
}

func TestLacks(t *testing.T) { // P2.2
	for _, x := range []struct {
		v, w Vector
		want []Gap
	}{
		{Vector{{1, 2}, {2, 1}}, Vector{{2, 3}}, []Gap{{2, 2, 3}}}, // the chapter's example
		{nil, nil, nil},
		{Vector{{1, 2}}, nil, nil},
		{Vector{{1, 2}}, Vector{{1, 2}}, nil},
		{Vector{{1, 2}, {3, 1}}, Vector{{1, 1}}, nil},
		{nil, Vector{{7, 1}}, []Gap{{7, 1, 1}}},
		{nil, Vector{{0, 3}, {lastR, lastSeq}}, []Gap{{0, 1, 3}, {lastR, 1, lastSeq}}},
		{Vector{{1, 2}, {5, 7}}, Vector{{1, 3}, {4, 1}, {5, 6}}, []Gap{{1, 3, 3}, {4, 1, 1}}},
		{Vector{{4, lastSeq - 1}}, Vector{{4, lastSeq}}, []Gap{{4, lastSeq, lastSeq}}},
		{Vector{{4, 1}}, Vector{{3, 1}, {4, 1}, {5, 2}}, []Gap{{3, 1, 1}, {5, 1, 2}}},
	} {
		if got := x.v.Lacks(x.w); !slices.Equal(got, x.want) {
			t.Errorf("%v.Lacks(%v) = %v, want %v", x.v, x.w, got, x.want)
		}
	}
}

func TestSumAndShow(t *testing.T) { // P2.2
	for _, x := range []struct {
		v    Vector
		sum  int
		show string
	}{
		{nil, 0, ""},
		{Vector{}, 0, ""},
		{Vector{{0, 1}}, 1, "0:1"},
		{Vector{{1, 2}, {2, 3}}, 5, "1:2 2:3"},
		{Vector{{1, 2}, {5, 7}, {10, 100}}, 109, "1:2 5:7 10:100"},
		{Vector{{lastR, lastSeq}}, 268435456, "65535:268435456"},
	} {
		if got := x.v.Sum(); got != x.sum {
			t.Errorf("%v.Sum() = %d", x.v, got)
		}
		if got := x.v.Show(); got != x.show {
			t.Errorf("%v.Show() = %q", x.v, got)
		}
	}
}

func TestSumOfAllReplicas(t *testing.T) { // P2.2
	v := make(Vector, lastR+1)
	for i := range v {
		v[i] = Entry{R: uint16(i), Seq: lastSeq}
	}
	if got := v.Sum(); got != 17592186044416 {
		t.Errorf("Sum() = %d", got)
	}
	if !v.Right() || v.Stands(v) != Same || !same(v.Join(v, v), v) {
		t.Error("the greatest vector of all is none, or another one than itself")
	}
}

// The reference: how much of each of a few replicas is known, by itself.
const few = 6

type plain [few]uint32

func (p plain) vector() Vector {
	var v Vector
	for r, seq := range p {
		if seq > 0 {
			v = append(v, Entry{R: uint16(r), Seq: seq})
		}
	}
	return v
}

func (p plain) show() string {
	var parts []string
	for r, seq := range p {
		if seq > 0 {
			parts = append(parts, strconv.Itoa(r)+":"+strconv.Itoa(int(seq)))
		}
	}
	return strings.Join(parts, " ")
}

func somePlain(src *rand.Rand) plain {
	var p plain
	for r := range p {
		p[r] = uint32(src.Intn(4))
	}
	return p
}

func TestAgainstPlainTables(t *testing.T) { // P2.1, P2.2
	src := rand.New(rand.NewSource(2))
	for range 3000 {
		p, q, o := somePlain(src), somePlain(src), somePlain(src)
		v, w := p.vector(), q.vector()
		var joined, changed plain
		covers, sum := true, 0
		var gaps []Gap
		at, seq := src.Intn(few), uint32(src.Intn(3))
		changed = p
		changed[at] = seq
		for r := range p {
			joined[r] = max(p[r], q[r], o[r])
			covers = covers && p[r] >= q[r]
			sum += int(p[r])
			if q[r] > p[r] {
				gaps = append(gaps, Gap{uint16(r), p[r] + 1, q[r]})
			}
		}
		if got := v.Join(w, o.vector()); !same(got, joined.vector()) {
			t.Fatalf("%v.Join(%v, %v) = %v", p, q, o, got)
		}
		if got := v.With(uint16(at), seq); !same(got, changed.vector()) {
			t.Fatalf("%v.With(%d, %d) = %v", p, at, seq, got)
		}
		if v.Covers(w) != covers || v.Sum() != sum || v.Show() != p.show() || !slices.Equal(v.Lacks(w), gaps) {
			t.Fatalf("%v and %v: %v %d %q %v", p, q, v.Covers(w), v.Sum(), v.Show(), v.Lacks(w))
		}
	}
}

func TestArgumentsStayAndAnswersAreNew(t *testing.T) { // the rule of memory
	room := func(v Vector) Vector { // with spare room behind it that shows what is written there
		full := append(slices.Clone(v), Entry{77, 77}, Entry{78, 78})
		return full[:len(v)]
	}
	v, w := Vector{{1, 2}, {5, 7}}, Vector{{1, 3}, {4, 1}}
	a, b := room(v), room(w)
	more := []Vector{b, b}
	answers := []Vector{a.With(5, 7), a.With(9, 1), a.With(9, 0), a.With(1, 0), a.Join(), a.Join(nil), a.Join(more...), Vector(nil).Join(b)}
	a.Lacks(b)
	a.Stands(b)
	kept := make([]Vector, len(answers))
	for i, x := range answers {
		kept[i] = slices.Clone(x)
		for j := range x {
			x[j] = Entry{lastR, 9}
		}
		_ = append(x, Entry{lastR, 8})
		if !same(a, v) || !same(b, w) || !same(more[0], w) || !same(more[1], w) {
			t.Fatalf("answer %d shares memory with an argument", i)
		}
		for j := i + 1; j < len(answers); j++ {
			if slices.Contains(answers[j], Entry{lastR, 9}) {
				t.Fatalf("answers %d and %d share memory", i, j)
			}
		}
	}
	for _, full := range []Vector{a[:4], b[:4]} {
		if full[2] != (Entry{77, 77}) || full[3] != (Entry{78, 78}) {
			t.Error("spare room was changed")
		}
	}
	if !same(kept[0], v) || !same(kept[2], v) {
		t.Error("With changed what it should keep")
	}
}

func TestEndsAtAnyEntries(t *testing.T) { // P1: entries that are no vector
	src := rand.New(rand.NewSource(3))
	odd := []Vector{
		nil, {}, {{2, 1}, {1, 1}}, {{2, 1}, {2, 2}}, {{1, 0}}, {{3, math.MaxUint32}, {3, math.MaxUint32}, {0, 0}},
	}
	for range 200 {
		v := make(Vector, src.Intn(9))
		for i := range v {
			v[i] = Entry{uint16(src.Intn(4)), src.Uint32() >> uint(src.Intn(32))}
		}
		odd = append(odd, v)
	}
	for _, v := range odd {
		for _, w := range odd {
			v.Join(w, v, w)
			v.Covers(w)
			v.Stands(w)
			v.Lacks(w)
		}
		for _, r := range []uint16{0, 1, 2, 3, 9, lastR} {
			v.Get(r)
			for _, seq := range []uint32{0, 1, lastSeq, lastSeq + 1, math.MaxUint32} {
				v.With(r, seq)
			}
		}
		v.Right()
		v.Sum()
		v.Show()
	}
}
