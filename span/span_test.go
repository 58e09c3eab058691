package span

import (
	"bytes"
	"math"
	"math/rand"
	"slices"
	"testing"

	"copyist/api"
	"copyist/ident"
	"copyist/pack"
)

// The limits as numbers, as the document says them, not as the program takes them.
const (
	mostN      = 268435456
	mostNames  = 1024
	mostSpans  = 1024
	mostWriter = 65535
)

func id(r uint16, n uint32) ident.ID { return ident.ID{R: r, N: n} }

func sp(r uint16, n uint32, length int) Span { return Span{ID: id(r, n), Len: length} }

// row are names of one replica that follow one another.
func row(r uint16, from uint32, count int) []ident.ID {
	var out []ident.ID
	for i := range count {
		out = append(out, id(r, from+uint32(i)))
	}
	return out
}

// names is the reference for what spans are: name by name, as the head of the chapter says it.
func names(l ...Span) []ident.ID {
	var out []ident.ID
	for _, s := range l {
		out = append(out, row(s.ID.R, s.ID.N, s.Len)...)
	}
	return out
}

// plainRight is the reference for Right: all N one by one.
func plainRight(s Span) bool {
	if s.Len < 1 || s.Len > mostNames {
		return false
	}
	for i := range s.Len {
		if n := int64(s.ID.N) + int64(i); n < 1 || n > mostN {
			return false
		}
	}
	return true
}

// plainOf is the reference for Of: the places at which a span ends are looked for first.
func plainOf(ids []ident.ID) []Span {
	var out []Span
	for from := 0; from < len(ids); {
		to := from + 1
		for to < len(ids) && to-from < mostNames && ids[to].R == ids[from].R && int64(ids[to].N) == int64(ids[from].N)+int64(to-from) {
			to++
		}
		out = append(out, Span{ID: ids[from], Len: to - from})
		from = to
	}
	return out
}

func plainApart(l []Span) bool {
	seen := map[ident.ID]bool{}
	for _, a := range names(l...) {
		if seen[a] {
			return false
		}
		seen[a] = true
	}
	return true
}

func plainLess(l, without []Span) []Span {
	out := map[ident.ID]bool{}
	for _, a := range names(without...) {
		out[a] = true
	}
	var left []ident.ID
	for _, a := range names(l...) {
		if !out[a] {
			left = append(left, a)
		}
	}
	return plainOf(left)
}

func plainFit(l []Span) api.Errno {
	if len(l) == 0 {
		return api.ErrForm
	}
	if len(l) > mostSpans {
		return api.ErrMany
	}
	for i, s := range l {
		if !plainRight(s) {
			return api.ErrForm
		}
		if len(names(l[:i+1]...)) > mostNames {
			return api.ErrLong
		}
	}
	if !plainApart(l) {
		return api.ErrTwice
	}
	return api.OK
}

// number is the reference for a number's bytes.
func number(n int) []byte {
	if n < 128 {
		return []byte{byte(n)}
	}
	return append([]byte{byte(n%128) + 128}, number(n/128)...)
}

// written are numbers, one behind the other.
func written(numbers ...int) []byte {
	var out []byte
	for _, n := range numbers {
		out = append(out, number(n)...)
	}
	return out
}

func plainPut(l []Span) []byte {
	out := number(len(l))
	for _, s := range l {
		out = append(out, written(int(s.ID.R), int(s.ID.N), s.Len)...)
	}
	return out
}

// plainNumber is the number at the beginning of bytes, by layer 5's chapter, and what is behind it.
func plainNumber(b []byte, limit int) (int, []byte, api.Errno) {
	size := 1 + slices.IndexFunc(b, func(x byte) bool { return x < 128 })
	if size > 9 || size == 0 && len(b) >= 9 {
		return 0, b, api.ErrForm
	}
	if size == 0 {
		return 0, b, api.ErrShort
	}
	n := 0
	for i := size - 1; i >= 0; i-- {
		n = n*128 + int(b[i])%128
	}
	if len(number(n)) != size {
		return 0, b, api.ErrForm
	}
	if n > limit {
		return 0, b, api.ErrRange
	}
	return n, b[size:], api.OK
}

// plainGet is the reference for Get: the spans, how many bytes were read, and the error.
func plainGet(b []byte) ([]Span, int, api.Errno) {
	rest := b
	count, rest, e := plainNumber(rest, mostSpans)
	if e != api.OK {
		return nil, 0, e
	}
	limits := []int{mostWriter, mostN, mostNames}
	var got []int
	for i := range 3 * count {
		var n int
		if n, rest, e = plainNumber(rest, limits[i%3]); e != api.OK {
			return nil, len(b) - len(rest), e
		}
		got = append(got, n)
	}
	var l []Span
	for part := range slices.Chunk(got, 3) {
		l = append(l, sp(uint16(part[0]), uint32(part[1]), part[2]))
	}
	return l, len(b) - len(rest), api.OK
}

func put(l ...Span) []byte {
	var w pack.Writer
	Put(&w, l...)
	return w.Bytes()
}

// getHolds looks at what Get tells of bytes, and at what it leaves of the reader.
func getHolds(t *testing.T, b []byte) {
	t.Helper()
	want, at, e := plainGet(b)
	r := pack.From(b)
	if l := Get(r); !slices.Equal(l, want) || r.Error() != e || r.At() != at {
		t.Fatalf("Get of % x: %v, error %d, %d read; want %v, error %d, %d read", b, l, r.Error(), r.At(), want, e, at)
	}
}

// listHolds looks at all that the calls tell of a list of spans.
func listHolds(t *testing.T, l []Span) {
	t.Helper()
	all := names(l...)
	if got := IDs(l...); !slices.Equal(got, all) {
		t.Fatalf("IDs of %v: %v", l, got)
	}
	if n := Total(l...); n != len(all) {
		t.Fatalf("Total of %v: %d, want %d", l, n, len(all))
	}
	if got, want := Of(all...), plainOf(all); !slices.Equal(got, want) {
		t.Fatalf("Of the names of %v: %v, want %v", l, got, want)
	}
	if got, want := Apart(l...), plainApart(l); got != want {
		t.Fatalf("Apart of %v: %t", l, got)
	}
	if got, want := Fit(l...), plainFit(l); got != want {
		t.Fatalf("Fit of %v: %d, want %d", l, got, want)
	}
	if got, want := put(l...), plainPut(l); !bytes.Equal(got, want) {
		t.Fatalf("Put of %v: % x, want % x", l, got, want)
	}
	getHolds(t, plainPut(l))
}

// someSpans are spans, which crowd in few replicas, so that they meet and have names in common.
func someSpans(src *rand.Rand, count, longest int) []Span {
	from := []uint32{1, 2, 100, mostN - 100, mostN - 1, mostN}[src.Intn(6)]
	var l []Span
	for range src.Intn(count + 1) {
		n := min(from+uint32(src.Intn(4*longest)), mostN)
		room := min(longest, mostN-int(n)+1)
		l = append(l, sp(uint16(src.Intn(3)), n, 1+src.Intn(room)))
	}
	return l
}

// anySpan is a span, or what is none.
func anySpan(src *rand.Rand) Span {
	n := []uint32{0, 1, 2, 500, mostN - 1024, mostN - 1023, mostN - 1, mostN, mostN + 1, math.MaxUint32}[src.Intn(10)]
	length := []int{math.MinInt, -1, 0, 1, 2, 500, 1023, 1024, 1025, math.MaxInt}[src.Intn(10)]
	return sp([]uint16{0, 1, mostWriter}[src.Intn(3)], n, length)
}

func TestChapterExample(t *testing.T) { // P7.1, P7.2
	l := Of(id(1, 4), id(1, 5), id(2, 6))
	if !slices.Equal(l, []Span{{ID: id(1, 4), Len: 2}, {ID: id(2, 6), Len: 1}}) {
		t.Error(l)
	}
	if ids := IDs(l...); !slices.Equal(ids, []ident.ID{id(1, 4), id(1, 5), id(2, 6)}) {
		t.Error(ids)
	}
	if Total(l...) != 3 || !Apart(l...) || Fit(l...) != api.OK {
		t.Error(Total(l...), Apart(l...), Fit(l...))
	}
	listHolds(t, l)
}

func TestRight(t *testing.T) { // P7.1
	for _, x := range []struct {
		s    Span
		want bool
	}{
		{Span{}, false},
		{sp(1, 1, 0), false}, {sp(1, 1, 1), true}, {sp(1, 1, 2), true},
		{sp(1, 1, 1023), true}, {sp(1, 1, 1024), true}, {sp(1, 1, 1025), false},
		{sp(1, 1, -1), false}, {sp(1, 5, -4), false}, {sp(1, 1, math.MinInt), false}, {sp(1, 1, math.MaxInt), false},
		{sp(1, 0, 1), false}, {sp(1, 0, 2), false}, {sp(1, 0, 1024), false}, {sp(1, 0, 0), false},
		{sp(1, mostN, 1), true}, {sp(1, mostN, 2), false}, {sp(1, mostN, 0), false},
		{sp(1, mostN-1, 2), true}, {sp(1, mostN-1, 3), false},
		{sp(1, mostN-1023, 1024), true}, {sp(1, mostN-1022, 1024), false}, {sp(1, mostN-1022, 1023), true},
		{sp(1, mostN+1, 1), false}, {sp(1, mostN+1, 0), false}, {sp(1, mostN+2, -1), false},
		{sp(1, math.MaxUint32, 1), false}, {sp(1, math.MaxUint32, 2), false}, {sp(1, math.MaxUint32, 3), false},
		// Lengths that lead back to names that may be, where 32 bits wrap round.
		{sp(1, 1, 1<<32), false}, {sp(1, 1, 1<<32+1), false}, {sp(1, 5, 1-1<<32), false}, {sp(1, 5, 1<<32+1), false},
		{sp(0, 1, 1), true}, {sp(0, mostN, 1), true}, {sp(mostWriter, 1, 1024), true}, {sp(mostWriter, mostN, 2), false},
	} {
		if got := x.s.Right(); got != x.want {
			t.Errorf("%v: %t", x.s, got)
		}
	}
}

func TestLast(t *testing.T) { // P7.1
	for _, x := range []struct {
		s    Span
		want ident.ID
	}{
		{sp(1, 1, 1), id(1, 1)}, {sp(1, 1, 2), id(1, 2)}, {sp(2, 7, 3), id(2, 9)}, {sp(0, 1, 1024), id(0, 1024)},
		{sp(mostWriter, mostN, 1), id(mostWriter, mostN)}, {sp(3, mostN-1023, 1024), id(3, mostN)},
	} {
		if got := x.s.Last(); got != x.want {
			t.Errorf("%v: %v, want %v", x.s, got, x.want)
		}
	}
}

func TestHas(t *testing.T) { // P7.1
	for _, s := range []Span{sp(1, 5, 1), sp(1, 5, 3), sp(0, 1, 1), sp(2, 1, 1024), sp(mostWriter, mostN, 1), sp(3, mostN-1023, 1024), sp(1, 2, 1000)} {
		all := names(s)
		for i, a := range all {
			if !s.Has(a) {
				t.Errorf("%v hasn't its name %d, %v", s, i, a)
			}
			for _, other := range []uint16{a.R + 1, a.R - 1} {
				if s.Has(id(other, a.N)) {
					t.Errorf("%v has %d of replica %d", s, a.N, other)
				}
			}
		}
		ahead, behind := all[0].Plus(-1), all[len(all)-1].Plus(1)
		for _, a := range []ident.ID{ahead, ahead.Plus(-1), behind, behind.Plus(1), behind.Plus(1024), id(s.ID.R, 0), id(s.ID.R, math.MaxUint32), {}} {
			if s.Has(a) {
				t.Errorf("%v has %v", s, a)
			}
		}
	}
}

func TestCut(t *testing.T) { // P7.1
	for _, s := range []Span{sp(1, 5, 1), sp(1, 5, 2), sp(1, 5, 3), sp(0, 1, 1024), sp(mostWriter, mostN-1023, 1024), sp(2, mostN, 1), sp(2, mostN-1, 2)} {
		all := names(s)
		for n := 1; n < s.Len; n++ {
			a, b, ok := s.Cut(n)
			if !ok || !a.Right() || !b.Right() || !slices.Equal(names(a), all[:n]) || !slices.Equal(names(b), all[n:]) {
				t.Fatalf("%v at %d: %v, %v, %t", s, n, a, b, ok)
			}
		}
		for _, n := range []int{0, -1, -s.Len, math.MinInt, s.Len, s.Len + 1, 2 * s.Len, 1<<32 + 1, math.MaxInt} {
			if a, b, ok := s.Cut(n); ok || a != (Span{}) || b != (Span{}) {
				t.Errorf("%v at %d: %v, %v, %t", s, n, a, b, ok)
			}
		}
	}
	if a, b, ok := sp(1, 5, 4).Cut(1); !ok || a != sp(1, 5, 1) || b != sp(1, 6, 3) {
		t.Error(a, b, ok)
	}
	if a, b, ok := sp(1, 5, 4).Cut(3); !ok || a != sp(1, 5, 3) || b != sp(1, 8, 1) {
		t.Error(a, b, ok)
	}
}

func TestOf(t *testing.T) { // P7.2
	for i, x := range []struct {
		ids  []ident.ID
		want []Span
	}{
		{nil, nil},
		{[]ident.ID{}, nil},
		{[]ident.ID{id(0, 1)}, []Span{sp(0, 1, 1)}},
		{row(1, 4, 3), []Span{sp(1, 4, 3)}},
		// N that follow one another, but in other replicas.
		{[]ident.ID{id(1, 4), id(2, 5), id(1, 6), id(2, 7)}, []Span{sp(1, 4, 1), sp(2, 5, 1), sp(1, 6, 1), sp(2, 7, 1)}},
		// Each follows one that isn't the one ahead of it.
		{[]ident.ID{id(1, 4), id(2, 4), id(1, 5), id(2, 5)}, []Span{sp(1, 4, 1), sp(2, 4, 1), sp(1, 5, 1), sp(2, 5, 1)}},
		{[]ident.ID{id(1, mostN), id(2, 1)}, []Span{sp(1, mostN, 1), sp(2, 1, 1)}},
		{[]ident.ID{id(1, mostN), id(1, 1)}, []Span{sp(1, mostN, 1), sp(1, 1, 1)}},
		{[]ident.ID{id(1, mostN-1), id(1, mostN)}, []Span{sp(1, mostN-1, 2)}},
		// Names that come twice, fall, or leave one out.
		{[]ident.ID{id(1, 4), id(1, 4)}, []Span{sp(1, 4, 1), sp(1, 4, 1)}},
		{[]ident.ID{id(1, 4), id(1, 5), id(1, 5), id(1, 6)}, []Span{sp(1, 4, 2), sp(1, 5, 2)}},
		{[]ident.ID{id(1, 6), id(1, 5), id(1, 4)}, []Span{sp(1, 6, 1), sp(1, 5, 1), sp(1, 4, 1)}},
		{[]ident.ID{id(1, 4), id(1, 6), id(1, 7)}, []Span{sp(1, 4, 1), sp(1, 6, 2)}},
		{[]ident.ID{id(1, 4), id(1, 5), id(1, 4), id(1, 5)}, []Span{sp(1, 4, 2), sp(1, 4, 2)}},
	} {
		if got := Of(x.ids...); !slices.Equal(got, x.want) {
			t.Errorf("%d: %v, want %v", i, got, x.want)
		}
	}
}

func TestOfMoreThanASpanHas(t *testing.T) { // P7.2
	for _, x := range []struct {
		count int
		want  []Span
	}{
		{1023, []Span{sp(7, 3, 1023)}},
		{1024, []Span{sp(7, 3, 1024)}},
		{1025, []Span{sp(7, 3, 1024), sp(7, 1027, 1)}},
		{2048, []Span{sp(7, 3, 1024), sp(7, 1027, 1024)}},
		{2049, []Span{sp(7, 3, 1024), sp(7, 1027, 1024), sp(7, 2051, 1)}},
		{3000, []Span{sp(7, 3, 1024), sp(7, 1027, 1024), sp(7, 2051, 952)}},
	} {
		if got := Of(row(7, 3, x.count)...); !slices.Equal(got, x.want) {
			t.Errorf("%d: %v, want %v", x.count, got, x.want)
		}
	}
	// Where one breaks off, the next one has all of its own room again.
	ids := slices.Concat(row(7, 3, 1000), row(8, 1003, 1024), row(7, 1003, 30), row(7, 1033, 1000))
	if got := Of(ids...); !slices.Equal(got, []Span{sp(7, 3, 1000), sp(8, 1003, 1024), sp(7, 1003, 1024), sp(7, 2027, 6)}) {
		t.Error(got)
	}
	if got := Of(row(7, mostN-1024, 1025)...); !slices.Equal(got, []Span{sp(7, mostN-1024, 1024), sp(7, mostN, 1)}) {
		t.Error(got)
	}
}

func TestNoSpans(t *testing.T) { // P7.1
	for i, l := range [][]Span{nil, {}, {sp(1, 1, 1)}} {
		l = l[:0]
		if len(IDs(l...)) != 0 || Total(l...) != 0 || !Apart(l...) || len(Less(l, l)) != 0 {
			t.Error(i, IDs(l...), Total(l...), Apart(l...), Less(l, l))
		}
	}
	if len(IDs()) != 0 || Total() != 0 || !Apart() || len(Less(nil, nil)) != 0 {
		t.Error(IDs(), Total(), Apart(), Less(nil, nil))
	}
}

func TestIDsAndTotal(t *testing.T) { // P7.1
	l := []Span{sp(2, 7, 2), sp(1, 3, 1), sp(2, 7, 2), sp(2, 6, 2), sp(mostWriter, mostN, 1), sp(0, 1, 1)}
	want := []ident.ID{id(2, 7), id(2, 8), id(1, 3), id(2, 7), id(2, 8), id(2, 6), id(2, 7), id(mostWriter, mostN), id(0, 1)}
	if got := IDs(l...); !slices.Equal(got, want) {
		t.Error(got)
	}
	if n := Total(l...); n != 9 {
		t.Error(n)
	}
	// All together may be more than an operation may have.
	many := slices.Repeat([]Span{sp(1, 1, 1024)}, 2000)
	if n := Total(many...); n != 2048000 {
		t.Error(n)
	}
	if ids := IDs(many...); len(ids) != 2048000 || ids[1023] != id(1, 1024) || ids[1024] != id(1, 1) {
		t.Error(len(ids))
	}
}

func TestApart(t *testing.T) { // P7.1
	for i, x := range []struct {
		l    []Span
		want bool
	}{
		{[]Span{sp(1, 3, 4)}, true},
		{[]Span{sp(1, 3, 4), sp(1, 7, 1)}, true}, {[]Span{sp(1, 3, 4), sp(1, 2, 1)}, true}, // side by side
		{[]Span{sp(1, 3, 4), sp(1, 6, 1)}, false}, {[]Span{sp(1, 6, 1), sp(1, 3, 4)}, false}, // the last name
		{[]Span{sp(1, 3, 4), sp(1, 3, 1)}, false}, {[]Span{sp(1, 3, 1), sp(1, 3, 4)}, false}, // the first one
		{[]Span{sp(1, 3, 4), sp(1, 1, 3)}, false}, {[]Span{sp(1, 3, 4), sp(1, 4, 2)}, false}, {[]Span{sp(1, 3, 4), sp(1, 1, 9)}, false},
		{[]Span{sp(1, 3, 4), sp(1, 3, 4)}, false},
		{[]Span{sp(1, 3, 4), sp(2, 3, 4)}, true}, {[]Span{sp(1, 3, 4), sp(0, 3, 4), sp(2, 4, 9)}, true}, // other replicas
		{[]Span{sp(1, 9, 1), sp(2, 9, 1), sp(1, 1, 1), sp(1, 5, 4), sp(1, 2, 3)}, true},
		{[]Span{sp(1, 9, 1), sp(2, 9, 1), sp(1, 1, 1), sp(1, 5, 5), sp(1, 2, 3)}, false},
		{[]Span{sp(1, 1, 1024), sp(3, 1, 1), sp(1, 500, 1), sp(1, 2000, 1)}, false}, // a short one within a long one
		{[]Span{sp(1, mostN-1023, 1023), sp(1, mostN, 1)}, true}, {[]Span{sp(1, mostN-1023, 1024), sp(1, mostN, 1)}, false},
		{[]Span{sp(0, mostN, 1), sp(1, 1, 1)}, true},
	} {
		if got := Apart(x.l...); got != x.want || plainApart(x.l) != x.want {
			t.Errorf("%d: %v: %t", i, x.l, got)
		}
	}
}

func TestLess(t *testing.T) { // P7.1
	for i, x := range []struct{ l, without, want []Span }{
		// Without anything: as Of makes them, so that those that follow one another become one.
		{[]Span{sp(1, 3, 4)}, nil, []Span{sp(1, 3, 4)}},
		{[]Span{sp(1, 3, 4), sp(1, 7, 2), sp(2, 9, 1), sp(1, 9, 1)}, nil, []Span{sp(1, 3, 6), sp(2, 9, 1), sp(1, 9, 1)}},
		{[]Span{sp(1, 3, 1000), sp(1, 1003, 30)}, nil, []Span{sp(1, 3, 1024), sp(1, 1027, 6)}},
		{nil, []Span{sp(1, 3, 4)}, nil},
		// Without all.
		{[]Span{sp(1, 3, 4)}, []Span{sp(1, 3, 4)}, nil},
		{[]Span{sp(1, 3, 4), sp(2, 1, 1)}, []Span{sp(2, 1, 9), sp(1, 5, 9), sp(1, 1, 4)}, nil},
		{[]Span{sp(1, 3, 4), sp(1, 4, 1)}, []Span{sp(1, 1, 1024)}, nil},
		// What is left of one span is several.
		{[]Span{sp(1, 3, 4), sp(2, 1, 1)}, []Span{sp(1, 4, 1)}, []Span{sp(1, 3, 1), sp(1, 5, 2), sp(2, 1, 1)}},
		{[]Span{sp(1, 1, 9)}, []Span{sp(1, 8, 1), sp(1, 2, 1), sp(1, 5, 2)}, []Span{sp(1, 1, 1), sp(1, 3, 2), sp(1, 7, 1), sp(1, 9, 1)}},
		// The first, the last, one ahead, one behind, another replica.
		{[]Span{sp(1, 3, 4)}, []Span{sp(1, 3, 1)}, []Span{sp(1, 4, 3)}},
		{[]Span{sp(1, 3, 4)}, []Span{sp(1, 6, 1)}, []Span{sp(1, 3, 3)}},
		{[]Span{sp(1, 3, 4)}, []Span{sp(1, 2, 1), sp(1, 7, 1), sp(2, 3, 4), sp(0, 3, 4)}, []Span{sp(1, 3, 4)}},
		// What is there several times, in what it is taken from, or in what is taken.
		{[]Span{sp(1, 3, 2), sp(1, 3, 2)}, []Span{sp(1, 4, 1)}, []Span{sp(1, 3, 1), sp(1, 3, 1)}},
		{[]Span{sp(1, 3, 2), sp(1, 3, 2)}, []Span{sp(1, 3, 1)}, []Span{sp(1, 4, 1), sp(1, 4, 1)}},
		{[]Span{sp(1, 1, 20)}, []Span{sp(1, 5, 9), sp(1, 6, 1), sp(1, 7, 8), sp(1, 5, 2)}, []Span{sp(1, 1, 4), sp(1, 15, 6)}},
		// Behind a long one that was taken, and short ones within it.
		{[]Span{sp(1, 1, 1024)}, []Span{sp(1, 2, 1000), sp(1, 3, 1), sp(1, 4, 1)}, []Span{sp(1, 1, 1), sp(1, 1002, 23)}},
		// Those that are taken make a stretch that is longer than a span.
		{[]Span{sp(1, 2, 3), sp(1, 1500, 40), sp(1, 2000, 24)}, []Span{sp(1, 1001, 1000), sp(1, 3, 1000)}, []Span{sp(1, 2, 1), sp(1, 2001, 23)}},
		// What is left follows one that was left of another span.
		{[]Span{sp(1, 1, 3), sp(1, 9, 2), sp(1, 4, 2)}, []Span{sp(1, 9, 2)}, []Span{sp(1, 1, 5)}},
		{[]Span{sp(1, mostN-1, 2)}, []Span{sp(1, mostN, 1)}, []Span{sp(1, mostN-1, 1)}},
	} {
		if got := Less(x.l, x.without); !slices.Equal(got, x.want) || !slices.Equal(got, plainLess(x.l, x.without)) {
			t.Errorf("%d: %v, want %v", i, got, x.want)
		}
	}
}

// singles are spans of one name, each in a replica of its own.
func singles(count int) []Span {
	var l []Span
	for i := range count {
		l = append(l, sp(uint16(i), 1, 1))
	}
	return l
}

func TestFit(t *testing.T) { // P7.3
	for i, x := range []struct {
		l    []Span
		want api.Errno
	}{
		{nil, api.ErrForm}, {[]Span{}, api.ErrForm},
		{[]Span{sp(1, 1, 1)}, api.OK}, {[]Span{sp(0, 1, 1)}, api.OK}, {[]Span{sp(mostWriter, mostN, 1)}, api.OK},
		{singles(1023), api.OK}, {singles(1024), api.OK}, {singles(1025), api.ErrMany}, {singles(3000), api.ErrMany},
		// No spans.
		{[]Span{{}}, api.ErrForm}, {[]Span{sp(1, 0, 1)}, api.ErrForm}, {[]Span{sp(1, 1, 0)}, api.ErrForm}, {[]Span{sp(1, 1, -1)}, api.ErrForm},
		{[]Span{sp(1, 1, 1025)}, api.ErrForm}, {[]Span{sp(1, mostN, 2)}, api.ErrForm}, {[]Span{sp(1, 1, math.MaxInt)}, api.ErrForm},
		{[]Span{sp(1, 1, 1), {}}, api.ErrForm}, {[]Span{sp(1, 1, 1), sp(2, 1, 1), sp(3, mostN+1, 1)}, api.ErrForm},
		// MaxTotal names together, and one more.
		{[]Span{sp(1, 1, 1024)}, api.OK}, {[]Span{sp(1, 1, 1000), sp(2, 1, 24)}, api.OK}, {[]Span{sp(1, 1, 1000), sp(2, 1, 25)}, api.ErrLong},
		{[]Span{sp(1, 1, 1024), sp(2, 1, 1)}, api.ErrLong}, {[]Span{sp(2, 1, 1), sp(1, 1, 1024)}, api.ErrLong},
		{[]Span{sp(1, 1, 512), sp(1, 513, 512)}, api.OK}, {[]Span{sp(1, 1, 512), sp(1, 513, 512), sp(2, 1, 1)}, api.ErrLong},
		// A name twice.
		{[]Span{sp(1, 1, 1), sp(1, 1, 1)}, api.ErrTwice}, {[]Span{sp(1, 5, 3), sp(2, 1, 1), sp(1, 3, 3)}, api.ErrTwice},
		{[]Span{sp(1, 5, 3), sp(2, 1, 1), sp(1, 3, 2)}, api.OK}, {[]Span{sp(1, 1, 512), sp(1, 512, 512)}, api.ErrTwice},
	} {
		if got := Fit(x.l...); got != x.want {
			t.Errorf("%d: %d, want %d", i, got, x.want)
		}
	}
}

func TestFitTellsTheFirst(t *testing.T) { // P7.3
	for i, x := range []struct {
		l    []Span
		want api.Errno
	}{
		// Too many is told ahead of whatever they are.
		{make([]Span, 1025), api.ErrMany}, {append(singles(1024), Span{}), api.ErrMany}, {slices.Repeat([]Span{sp(1, 1, 1)}, 1025), api.ErrMany},
		{slices.Repeat([]Span{sp(1, 1, 1024)}, 1025), api.ErrMany}, {make([]Span, 1024), api.ErrForm},
		// One by one: no span ahead of too long, or too long ahead of no span.
		{[]Span{{}, sp(1, 1, 1024), sp(2, 1, 1)}, api.ErrForm}, {[]Span{sp(1, 1, 1024), {}, sp(2, 1, 1)}, api.ErrForm},
		{[]Span{sp(1, 1, 1024), sp(2, 1, 1), {}}, api.ErrLong}, {[]Span{sp(1, 1, 1024), sp(2, 1, 1025)}, api.ErrForm},
		{[]Span{sp(1, 1, 1024), sp(2, 1, -1)}, api.ErrForm}, {[]Span{sp(1, 1, 600), sp(1, 1, 600), sp(1, 0, 600)}, api.ErrLong},
		// Twice comes behind both.
		{[]Span{sp(1, 1, 1), sp(1, 1, 1), {}}, api.ErrForm}, {[]Span{sp(1, 1, 1), sp(1, 1, 1), sp(2, 1, 1023)}, api.ErrLong},
		{[]Span{sp(1, 1, 1024), sp(1, 1, 1)}, api.ErrLong}, {[]Span{sp(1, 1, 1024), sp(1, 1, 1024)}, api.ErrLong},
		{[]Span{sp(1, 1, 1), sp(1, 1, 1), sp(2, 1, 1022)}, api.ErrTwice}, {slices.Repeat([]Span{sp(1, 1, 1)}, 1024), api.ErrTwice},
		// What is no span counts nothing, so that nothing is made good by it.
		{[]Span{sp(1, 1, 1024), sp(2, 1, math.MinInt), sp(3, 1, 1)}, api.ErrForm}, {[]Span{sp(1, 1, 1), sp(2, 1, math.MaxInt)}, api.ErrForm},
	} {
		if got := Fit(x.l...); got != x.want {
			t.Errorf("%d: %d, want %d", i, got, x.want)
		}
	}
}

func TestPut(t *testing.T) { // P7.4
	for i, x := range []struct {
		l    []Span
		want []byte
	}{
		{nil, []byte{0}},
		{[]Span{sp(1, 1, 1)}, []byte{1, 1, 1, 1}},
		{[]Span{sp(300, 5, 2), sp(1, 1, 1)}, []byte{2, 0xac, 2, 5, 2, 1, 1, 1}},
		{[]Span{sp(0, mostN, 1)}, []byte{1, 0, 0x80, 0x80, 0x80, 0x80, 1, 1}},
		{[]Span{sp(mostWriter, 1, 1024)}, []byte{1, 0xff, 0xff, 3, 1, 0x80, 8}},
	} {
		if got := put(x.l...); !bytes.Equal(got, x.want) {
			t.Errorf("%d: % x, want % x", i, got, x.want)
		}
		getHolds(t, x.want)
	}
	// Behind what was written, and ahead of what is.
	var w pack.Writer
	w.Text("ab")
	Put(&w, sp(9, 8, 7))
	Put(&w)
	w.Byte(255)
	if got := w.Bytes(); !bytes.Equal(got, []byte{2, 'a', 'b', 1, 9, 8, 7, 0, 255}) {
		t.Errorf("% x", got)
	}
	// How many is written whatever it is: only an operation has but so many.
	if got, want := put(singles(1025)...), plainPut(singles(1025)); !bytes.Equal(got, want) {
		t.Errorf("% x", got)
	}
}

func TestGetOfWhatWasPut(t *testing.T) { // P7.4
	for _, l := range [][]Span{nil, {sp(1, 1, 1)}, {sp(1, 4, 2), sp(2, 6, 1)}, singles(127), singles(128), singles(1023), singles(1024), {sp(mostWriter, mostN-1023, 1024)}, {sp(1, 1, 1), sp(1, 1, 1)}} {
		b := append(put(l...), 0xab, 0xcd)
		r := pack.From(append([]byte{77}, b...))
		r.Byte()
		if got := Get(r); !slices.Equal(got, l) || r.Error() != api.OK || r.Left() != 2 || r.Byte() != 0xab {
			t.Errorf("%d spans: %v, error %d, %d left", len(l), got, r.Error(), r.Left())
		}
	}
	// Two lists, one behind the other.
	r := pack.From(append(put(sp(1, 1, 1)), put(sp(2, 2, 2), sp(3, 3, 3))...))
	if a, b := Get(r), Get(r); !slices.Equal(a, []Span{sp(1, 1, 1)}) || !slices.Equal(b, []Span{sp(2, 2, 2), sp(3, 3, 3)}) || r.Done() != api.OK {
		t.Error(a, b, r.Done())
	}
}

func TestGetOfNoRightSpans(t *testing.T) { // P7.4
	for _, numbers := range [][]int{{1, 0, 0, 0}, {1, 5, 0, 1}, {1, 5, 1, 0}, {1, 5, mostN, 1024}, {3, 1, 1, 1024, 1, 1, 1024, 1, 1, 0}} {
		r := pack.From(written(numbers...))
		l := Get(r)
		if len(l) != numbers[0] || r.Done() != api.OK {
			t.Errorf("%v: %v, %d", numbers, l, r.Done())
		}
		getHolds(t, written(numbers...))
	}
}

func TestGetOfCutBytes(t *testing.T) { // P7.4
	for _, l := range [][]Span{{sp(1, 1, 1)}, {sp(300, 5, 2), sp(1, 1, 1)}, {sp(mostWriter, mostN-1023, 1024), sp(2, 300, 200)}, singles(200)} {
		b := put(l...)
		for i := range b {
			r := pack.From(b[:i])
			if got := Get(r); len(got) != 0 || r.Error() != api.ErrShort {
				t.Fatalf("% x: %v, %d", b[:i], got, r.Error())
			}
			getHolds(t, b[:i])
		}
	}
}

func TestGetOfNumbersPastTheirLimits(t *testing.T) { // P7.4
	long := put(singles(1025)...)
	for i, b := range [][]byte{
		long, written(1025), written(1 << 40), written(math.MaxInt),
		written(1, 65536, 1, 1), written(1, math.MaxInt, 1, 1), written(1, 65536+7, 1, 1),
		written(1, 7, mostN+1, 1), written(1, 7, 1<<32, 1), written(1, 7, 1<<32+1, 1), written(1, 7, math.MaxInt, 1),
		written(1, 7, 1, 1025), written(1, 7, 1, 1<<32), written(1, 7, 1, math.MaxInt),
		written(2, 7, 1, 1, 65536, 1, 1), written(2, 7, 1, 1, 7, mostN+1, 1), written(2, 7, 1, 1, 7, 1, 1025), written(2, 7, 1, 1025, 7, 1, 1),
	} {
		r := pack.From(b)
		if l := Get(r); len(l) != 0 || r.Error() != api.ErrRange {
			t.Errorf("%d: %v, %d", i, l, r.Error())
		}
		getHolds(t, b)
	}
	for i, b := range [][]byte{
		written(1024), written(1, 65535, 1, 1), written(1, 7, mostN, 1), written(1, 7, 1, 1024),
		{0x80, 0}, {1, 0x87, 0, 1, 1}, {1, 1, 0x81, 0, 1}, {1, 1, 1, 0x81, 0}, // not in as few bytes as they have
		bytes.Repeat([]byte{0x80}, 9), append([]byte{1, 1}, bytes.Repeat([]byte{0xff}, 12)...),
	} {
		getHolds(t, b)
		if r := pack.From(b); i >= 4 && (len(Get(r)) != 0 || r.Error() != api.ErrForm) {
			t.Error(i, r.Error())
		}
	}
}

func TestGetBehindAnError(t *testing.T) { // P7.4
	good := put(sp(1, 2, 3))
	for _, spoil := range []func(*pack.Reader){
		func(r *pack.Reader) { r.Num(0) },
		func(r *pack.Reader) { r.Text(64); r.Text(0) },
	} {
		r := pack.From(good)
		spoil(r)
		at, e := r.At(), r.Error()
		if l := Get(r); e == api.OK || len(l) != 0 || r.At() != at || r.Error() != e {
			t.Error(l, r.At(), r.Error())
		}
	}
}

func TestMemory(t *testing.T) { // P7.1 to P7.4
	l := []Span{sp(3, 9, 4), sp(1, 5, 2), sp(2, 1, 1), sp(1, 5, 2), sp(1, 7, 9), sp(1, 16, 1)}
	without := []Span{sp(3, 10, 1), sp(2, 1, 5), sp(1, 8, 1), sp(3, 9, 9)}
	ids := []ident.ID{id(2, 7), id(2, 8), id(1, 1), id(1, 2), id(1, 2)}
	front, frontOut, frontIDs := l[:3], without[:2], ids[:3] // with spare room behind, which is somebody else's
	wantL, wantOut, wantIDs := slices.Clone(l), slices.Clone(without), slices.Clone(ids)
	unchanged := func(call string) {
		t.Helper()
		if !slices.Equal(l, wantL) || !slices.Equal(without, wantOut) || !slices.Equal(ids, wantIDs) {
			t.Fatalf("%s: an argument was changed: %v, %v, %v", call, l, without, ids)
		}
	}
	var w pack.Writer
	for _, part := range [][]Span{l, front, l[1:5]} {
		for call, do := range map[string]func(){
			"IDs": func() { clear(IDs(part...)) }, "Total": func() { Total(part...) }, "Apart": func() { Apart(part...) },
			"Less": func() { clear(Less(part, frontOut)) }, "Less without anything": func() { clear(Less(part, nil)) }, "Less of itself": func() { Less(part, part) },
			"Fit": func() { Fit(part...) }, "Put": func() { Put(&w, part...) }, "Of": func() { clear(Of(frontIDs...)) },
			"Less at spare room": func() { _ = append(Less(part, without[:1]), Span{}) }, "Of at spare room": func() { _ = append(Of(frontIDs...), Span{}) },
			"IDs at spare room": func() { _ = append(IDs(part...), ident.ID{}) },
		} {
			do()
			unchanged(call)
		}
	}
}

func TestAnswersAreNewMemory(t *testing.T) { // P7.1, P7.2, P7.4
	l := []Span{sp(1, 5, 2), sp(2, 1, 3)}
	b := put(l...)
	again := func(call string, ask func() []Span) {
		t.Helper()
		first := ask()
		want := slices.Clone(first)
		second := ask()
		for i := range first {
			first[i] = sp(9, 9, 9)
		}
		_ = append(first, sp(9, 9, 9))
		if !slices.Equal(second, want) || !slices.Equal(ask(), want) {
			t.Errorf("%s: two answers share memory", call)
		}
	}
	again("Of", func() []Span { return Of(id(1, 5), id(2, 6)) })
	again("Less", func() []Span { return Less(l, []Span{sp(2, 2, 1)}) })
	again("Less without anything", func() []Span { return Less(l, nil) })
	r := pack.From(bytes.Repeat(b, 3))
	again("Get", func() []Span { return Get(r) })
	first, second := IDs(l...), IDs(l...)
	clear(first)
	if !slices.Equal(second, names(l...)) || !slices.Equal(IDs(l...), names(l...)) {
		t.Error("IDs: two answers share memory")
	}
	// What was written stays, whatever becomes of the spans.
	var w pack.Writer
	Put(&w, l...)
	l[0] = sp(9, 9, 9)
	if !bytes.Equal(w.Bytes(), b) {
		t.Error("Put kept its argument")
	}
}

func TestSpansOfAnyKind(t *testing.T) { // P7.1 to P7.4
	src := rand.New(rand.NewSource(7))
	for i := range 4000 {
		longest := []int{1, 3, 20, mostNames}[i%4]
		l, without := someSpans(src, 12, longest), someSpans(src, 12, longest)
		listHolds(t, l)
		for _, pair := range [][2][]Span{{l, without}, {l, l}, {l, nil}, {without, l[:len(l)/2]}} {
			if got, want := Less(pair[0], pair[1]), plainLess(pair[0], pair[1]); !slices.Equal(got, want) {
				t.Fatalf("Less of %v without %v: %v, want %v", pair[0], pair[1], got, want)
			}
		}
	}
	for range 20 {
		l, without := someSpans(src, 2*mostSpans, 3), someSpans(src, 2*mostSpans, 9)
		listHolds(t, l)
		if got, want := Less(l, without), plainLess(l, without); !slices.Equal(got, want) {
			t.Fatalf("Less of %v without %v: %v, want %v", l, without, got, want)
		}
	}
}

func TestSpansOfAllKindsAlone(t *testing.T) { // P7.1
	for _, from := range []uint32{1, 2, mostN - 9, mostN - 3} {
		for length := 1; int(from)+length-1 <= mostN && length <= 9; length++ {
			s := sp(4, from, length)
			if !s.Right() || s.Last() != names(s)[length-1] {
				t.Error(s, s.Right(), s.Last())
			}
			for r := uint16(3); r <= 5; r++ {
				for n := from - 1; n < from+12; n++ {
					if got, want := s.Has(id(r, n)), slices.Contains(names(s), id(r, n)); got != want {
						t.Errorf("%v has %v: %t", s, id(r, n), got)
					}
				}
			}
		}
	}
	src := rand.New(rand.NewSource(71))
	for range 5000 {
		if s := anySpan(src); s.Right() != plainRight(s) {
			t.Errorf("%v: %t", s, s.Right())
		}
	}
}

func TestNamesOfAnyKind(t *testing.T) { // P7.2
	src := rand.New(rand.NewSource(72))
	for range 3000 {
		var ids []ident.ID
		at := id(uint16(src.Intn(3)), uint32(1+src.Intn(9)))
		for range src.Intn(60) {
			switch src.Intn(8) {
			case 0:
				at = id(uint16(src.Intn(3)), at.N+1)
			case 1:
				at = id(at.R, uint32(1+src.Intn(20)))
			case 2:
				at = id(at.R, uint32(mostN-src.Intn(3)))
			default:
				if at.N < mostN {
					at.N++
				}
			}
			ids = append(ids, at)
		}
		got := Of(ids...)
		if !slices.Equal(got, plainOf(ids)) || !slices.Equal(names(got...), ids) {
			t.Fatalf("Of %v: %v", ids, got)
		}
	}
}

func TestFitOfAnyKind(t *testing.T) { // P7.3
	src := rand.New(rand.NewSource(73))
	seen := map[api.Errno]int{}
	for i := range 20000 {
		l := someSpans(src, 6, []int{2, 30, 400}[i%3])
		if src.Intn(3) == 0 {
			l = append(l, anySpan(src))
			src.Shuffle(len(l), func(i, j int) { l[i], l[j] = l[j], l[i] })
		}
		got, want := Fit(l...), plainFit(l)
		if got != want {
			t.Fatalf("Fit of %v: %d, want %d", l, got, want)
		}
		seen[got]++
	}
	for _, e := range []api.Errno{api.OK, api.ErrForm, api.ErrLong, api.ErrTwice} {
		if seen[e] < 100 {
			t.Errorf("error %d: only %d times", e, seen[e])
		}
	}
}

func TestBytesOfAnyKind(t *testing.T) { // P7.4
	src := rand.New(rand.NewSource(74))
	for range 30000 {
		var b []byte
		switch src.Intn(3) {
		case 0: // whatever
			b = make([]byte, src.Intn(40))
			src.Read(b)
		case 1: // a small count, and small numbers, now and then a great one
			b = number(src.Intn(6))
			for range src.Intn(20) {
				b = append(b, number(src.Intn(200)<<(7*src.Intn(4)))...)
			}
		case 2: // what was put, with a byte that is another one
			b = put(someSpans(src, 5, 300)...)
			b[src.Intn(len(b))] = byte(src.Intn(256))
		}
		getHolds(t, b)
	}
	for a := range 256 {
		for b := range 256 {
			getHolds(t, []byte{byte(a), byte(b)})
			getHolds(t, []byte{1, byte(a), byte(b), 5})
			getHolds(t, []byte{1, 5, byte(a), byte(b)})
		}
	}
}

func TestEndsAtAnyArguments(t *testing.T) { // P1
	ns := []uint32{0, 1, 2, 1 << 27, mostN - 1, mostN, mostN + 1, 1 << 31, math.MaxUint32 - 1, math.MaxUint32}
	lengths := []int{math.MinInt, math.MinInt32, -1024, -1, 0, 1, 2, 1024, 1025, 1 << 28, 1 << 31, 1 << 32, 1<<32 + 1, 1 << 40, math.MaxInt - 1, math.MaxInt}
	var l []Span
	var ids []ident.ID
	for _, r := range []uint16{0, 1, mostWriter} {
		for _, n := range ns {
			ids = append(ids, id(r, n))
			for _, length := range lengths {
				l = append(l, sp(r, n, length))
			}
		}
	}
	for _, s := range l {
		s.Right()
		s.Last()
		for _, a := range ids {
			s.Has(a)
		}
		for _, n := range lengths {
			s.Cut(n)
		}
		IDs(s)
		Total(s)
		Apart(s, s)
		Fit(s)
		Less([]Span{s}, l)
		Less(l, []Span{s})
		Get(pack.From(put(s)))
	}
	Of(ids...)
	Of(slices.Repeat([]ident.ID{{}}, 5000)...)
	IDs(l...)
	Total(l...)
	Apart(l...)
	Fit(l...)
	Less(l, l)
	Get(pack.From(put(l...)))
	Get(pack.From(nil))
}

// Among many spans, those that meet are found without going through all pairs, nor through all names.
func TestManySpans(t *testing.T) { // P1, P7.1
	var l []Span
	for i := range 200000 {
		l = append(l, sp(uint16(i%7), uint32(1+i/7*1024), 1024))
	}
	if !Apart(l...) || Total(l...) != 200000*1024 {
		t.Error("200000 spans aren't apart")
	}
	if Apart(append(l, sp(3, 5000, 1))...) {
		t.Error("200001 spans are apart")
	}
	if got := Less([]Span{sp(3, 1000, 100), sp(8, 1, 2)}, l); !slices.Equal(got, []Span{sp(8, 1, 2)}) {
		t.Error(got)
	}
}
