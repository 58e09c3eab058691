package gauss

import (
	"math"
	"math/rand"
	"strconv"
	"testing"

	"copyist/api"
)

// The bounds as the document says them, not as the program does.
const (
	far     = 33554432 // 2^25: how far a part may be from 0
	topNorm = 33554432 // 2^25: the norm of what may be divided
)

var (
	minusZero = math.Copysign(0, -1)
	nan       = math.NaN()
	endless   = math.Inf(1)
)

// oddParts are no parts of a whole number.
var oddParts = []float64{
	0.5, -0.5, 1.5, -7.25, 2 + 1.0/4096, 5e-324, -5e-324, 1 - 1e-16, far - 0.5, far + 0.5, -far - 0.5,
	far + 1, -far - 1, 2 * far, 1 << 40, -(1 << 40), 1 << 62, 1 << 63, 1 << 64, -(1 << 63), 1e300, -math.MaxFloat64,
	endless, -endless, nan,
}

// notWhole has each odd part in either place, beside parts that are right and beside one another.
func notWhole() []complex128 {
	var out []complex128
	for _, x := range oddParts {
		for _, y := range []float64{0, minusZero, 1, -3, far, -far} {
			out = append(out, complex(x, y), complex(y, x))
		}
		for _, y := range oddParts {
			out = append(out, complex(x, y))
		}
	}
	return out
}

// wholeParts are ordinary ones, and those at the bounds.
var wholeParts = []int{0, 1, -1, 2, -2, 3, -4, 7, 100, -4096, 5793, far - 1, 1 - far, far, -far}

func TestOfPartsAndRight(t *testing.T) { // P3.1
	for _, re := range wholeParts {
		for _, im := range wholeParts {
			z := Of(re, im)
			if z != complex(float64(re), float64(im)) {
				t.Errorf("Of(%d, %d) = %v", re, im, z)
			}
			if a, b, ok := Parts(z); a != re || b != im || !ok {
				t.Errorf("Parts(%v) = %d, %d, %v", z, a, b, ok)
			}
			if !Right(z) {
				t.Errorf("%v isn't whole", z)
			}
		}
	}
	for _, z := range []complex128{complex(minusZero, 0), complex(0, minusZero), complex(minusZero, minusZero)} {
		if a, b, ok := Parts(z); a != 0 || b != 0 || !ok || !Right(z) {
			t.Errorf("Parts(%v) = %d, %d, %v", z, a, b, ok)
		}
	}
	if a, b, ok := Parts(complex(minusZero, -5)); a != 0 || b != -5 || !ok {
		t.Errorf("of -0 and -5: %d, %d, %v", a, b, ok)
	}
	for _, z := range notWhole() {
		if a, b, ok := Parts(z); a != 0 || b != 0 || ok {
			t.Errorf("Parts(%v) = %d, %d, %v", z, a, b, ok)
		}
		if Right(z) {
			t.Errorf("%v is whole", z)
		}
	}
}

func TestTurn(t *testing.T) { // P3.1
	for _, x := range []struct {
		n    int
		want complex128
	}{
		{0, 1}, {1, 1i}, {2, -1}, {3, -1i},
		{4, 1}, {5, 1i}, {6, -1}, {7, -1i}, {8, 1},
		{-1, -1i}, {-2, -1}, {-3, 1i}, {-4, 1}, {-5, -1i}, {-6, -1}, {-7, 1i}, {-8, 1},
		{1001, 1i}, {-1001, -1i},
		{math.MaxInt, -1i}, {math.MaxInt - 1, -1}, {math.MaxInt - 2, 1i}, {math.MaxInt - 3, 1},
		{math.MinInt, 1}, {math.MinInt + 1, 1i}, {math.MinInt + 2, -1}, {math.MinInt + 3, -1i},
	} {
		if got := Turn(x.n); got != x.want {
			t.Errorf("Turn(%d) = %v, want %v", x.n, got, x.want)
		}
	}
	for n := -50; n < 50; n++ {
		if Turn(n)*1i != Turn(n+1) {
			t.Errorf("Turn(%d), turned once more, is %v", n, Turn(n)*1i)
		}
	}
}

func TestTurns(t *testing.T) { // P3.1
	for _, x := range []struct {
		z    complex128
		want int
	}{
		{1, 0}, {1i, 1}, {-1, 2}, {-1i, 3},
		{complex(1, minusZero), 0}, {complex(minusZero, 1), 1}, {complex(-1, minusZero), 2}, {complex(minusZero, -1), 3},
	} {
		if got, ok := Turns(x.z); got != x.want || !ok {
			t.Errorf("Turns(%v) = %d, %v", x.z, got, ok)
		}
	}
	none := append(notWhole(), 0, complex(minusZero, minusZero), 2, -2, 2i, -2i, 1+1i, 1-1i, -1+1i, -1-1i, 1+2i, far, -far*1i)
	for _, z := range none {
		if got, ok := Turns(z); got != 0 || ok {
			t.Errorf("Turns(%v) = %d, %v", z, got, ok)
		}
	}
}

func TestNormAndMirror(t *testing.T) { // P3.1
	for _, re := range wholeParts {
		for _, im := range wholeParts {
			z := complex(float64(re), float64(im))
			if got := Norm(z); got != re*re+im*im {
				t.Errorf("Norm(%v) = %d", z, got)
			}
			if got := Mirror(z); got != complex(float64(re), float64(-im)) {
				t.Errorf("Mirror(%v) = %v", z, got)
			}
		}
	}
	for _, x := range []struct {
		z      complex128
		norm   int
		mirror complex128
	}{
		{0, 0, 0},
		{complex(minusZero, minusZero), 0, 0},
		{complex(3, minusZero), 9, 3},
		{3 - 4i, 25, 3 + 4i},
		{-3 + 4i, 25, -3 - 4i},
		{far + far*1i, 2251799813685248, far - far*1i},
		{-far - far*1i, 2251799813685248, -far + far*1i},
	} {
		if got := Norm(x.z); got != x.norm {
			t.Errorf("Norm(%v) = %d", x.z, got)
		}
		if got := Mirror(x.z); got != x.mirror {
			t.Errorf("Mirror(%v) = %v", x.z, got)
		}
	}
}

func TestDivide(t *testing.T) { // P3.2
	for _, x := range []struct{ a, b, q, r complex128 }{
		{5 + 3i, 2, 3 + 2i, -1 - 1i}, // the chapter's example
		{7 + 4i, 2 - 1i, 2 + 3i, 0},
		{0, 3i, 0, 0},
		{1, 1, 1, 0},
		{1, 3, 0, 1},
		{2, 3, 1, -1},
		{-1, 3, 0, -1},
		{-2, 3, -1, 1},
		{17, 4 + 1i, 4 - 1i, 0},
		// halfway, in either part, with either sign
		{1, 2, 1, -1}, {-1, 2, 0, -1}, {1i, 2, 1i, -1i}, {-1i, 2, 0, -1i},
		{3, 2, 2, -1}, {-3, 2, -1, -1}, {3i, 2, 2i, -1i}, {-3i, 2, -1i, -1i},
		{1 + 1i, 2, 1 + 1i, -1 - 1i}, {1 - 1i, 2, 1, -1 - 1i}, {-1 + 1i, 2, 1i, -1 - 1i}, {-1 - 1i, 2, 0, -1 - 1i},
		{1, 1 + 1i, 1, -1i}, {1i, 1 + 1i, 1 + 1i, -1i}, {-1, 1 + 1i, 1i, -1i}, {1, -2, 0, 1}, {1, 2i, 0, 1}, {-1, 2i, 1i, 1},
		{5i, 2i, 3, -1i}, {3, 6, 1, -3}, {-3, 6, 0, -3},
		// beside a half
		{2499, 5000, 0, 2499}, {2501, 5000, 1, -2499}, {-2499, 5000, 0, -2499}, {-2501, 5000, -1, 2499},
		{2500, 5000, 1, -2500}, {-2500, 5000, 0, -2500}, {2500i, 5000, 1i, -2500i}, {-2500i, 5000, 0, -2500i},
		{5001i, 2, 2501i, -1i}, {-5001i, 2, -2500i, -1i},
		// 0 with a sign is 0
		{complex(minusZero, 5), complex(2, minusZero), 3i, -1i},
		{complex(minusZero, minusZero), 3, 0, 0},
		// norms of just 2^25
		{4096 + 4096i, 1, 4096 + 4096i, 0},
		{4096 - 4096i, 1i, -4096 - 4096i, 0},
		{4096 + 4096i, 4096 + 4096i, 1, 0},
		{4096 + 4096i, 4096 - 4096i, 1i, 0},
		{1, -4096 - 4096i, 0, 1},
		{4096, 4096 + 4096i, 1, -4096i},
		{5792 + 84i, 3, 1931 + 28i, -1},
	} {
		if q, r, e := Divide(x.a, x.b); q != x.q || r != x.r || e != api.OK {
			t.Errorf("Divide(%v, %v) = %v, %v, %d, want %v, %v", x.a, x.b, q, r, e, x.q, x.r)
		}
	}
}

// tooGreat are whole, but of norms above 2^25; the least such norm is 2^25 + 2.
func tooGreat() []complex128 {
	var out []complex128
	for _, z := range []complex128{4097 + 4095i, 4095 + 4097i, 4097 + 4096i, 5793, 5792 + 85i, far, far + far*1i} {
		out = append(out, z, z*1i, -z, z*-1i)
	}
	return out
}

func TestWhatMayNotBeDivided(t *testing.T) { // P3.2
	wrong := func(a, b complex128, want api.Errno) {
		t.Helper()
		if q, r, e := Divide(a, b); q != 0 || r != 0 || e != want {
			t.Errorf("Divide(%v, %v) = %v, %v, %d, want %d", a, b, q, r, e, want)
		}
	}
	zero := complex(minusZero, minusZero)
	for _, z := range append(notWhole(), tooGreat()...) {
		for _, w := range []complex128{0, zero, 1, 3 - 2i, 4096 + 4096i, z, complex(nan, 0), 6000} {
			wrong(z, w, api.ErrRange)
			wrong(w, z, api.ErrRange)
			for _, x := range [][2]complex128{{z, w}, {w, z}} {
				if c, e := Common(x[0], x[1]); c != 0 || e != api.ErrRange {
					t.Errorf("Common(%v, %v) = %v, %d", x[0], x[1], c, e)
				}
			}
		}
	}
	for _, a := range []complex128{0, zero, 1, -5i, 4096 + 4096i} {
		for _, b := range []complex128{0, zero, complex(0, minusZero), complex(minusZero, 0)} {
			wrong(a, b, api.ErrNone)
		}
	}
}

func TestCommon(t *testing.T) { // P3.2
	zero := complex(minusZero, minusZero)
	for _, x := range []struct{ a, b, want complex128 }{
		{6, 4, 2}, {5, 2 + 1i, 2 + 1i}, {2, 1 + 1i, 1 + 1i}, {3, 2, 1}, {12, 18, 6},
		// one or both are 0
		{0, 0, 0}, {zero, 0, 0}, {0, zero, 0}, {zero, zero, 0},
		{3, 0, 3}, {0, 3, 3}, {-3, 0, 3}, {0, -3, 3}, {3i, 0, 3}, {-3i, 0, 3}, {0, 3i, 3}, {zero, -3i, 3},
		{2 + 5i, 0, 2 + 5i}, {-5 + 2i, 0, 2 + 5i}, {0, -2 - 5i, 2 + 5i}, {0, 5 - 2i, 2 + 5i},
		{1 - 1i, 0, 1 + 1i}, {0, -1 - 1i, 1 + 1i}, {-4096 + 4096i, 0, 4096 + 4096i},
		// turned into the first quarter
		{-6, -4, 2}, {6i, 4i, 2}, {-6i, 4, 2}, {5, 1 - 2i, 2 + 1i}, {5, 2 - 1i, 1 + 2i}, {-1, -1, 1}, {1i, -1i, 1}, {5i, -2 - 1i, 2 + 1i},
		{1 - 1i, 2, 1 + 1i}, {-1 - 1i, 3, 1}, {4096 + 4096i, 4096 - 4096i, 4096 + 4096i}, {4096 + 4096i, 5792, 32}, {4096 + 4096i, 32 - 32i, 32 + 32i},
	} {
		if got, e := Common(x.a, x.b); got != x.want || e != api.OK {
			t.Errorf("Common(%v, %v) = %v, %d, want %v", x.a, x.b, got, e, x.want)
		}
	}
}

func TestShow(t *testing.T) { // P3.3
	for _, x := range []struct {
		z    complex128
		want string
	}{
		{0, "0+0i"},
		{complex(minusZero, minusZero), "0+0i"},
		{complex(3, minusZero), "3+0i"},
		{complex(minusZero, -3), "0-3i"},
		{1 + 1i, "1+1i"}, {1 - 1i, "1-1i"}, {-1 + 1i, "-1+1i"}, {-1 - 1i, "-1-1i"},
		{-7, "-7+0i"}, {12i, "0+12i"}, {-120i, "0-120i"}, {10 - 305i, "10-305i"},
		{far + far*1i, "33554432+33554432i"},
		{-far - far*1i, "-33554432-33554432i"},
		{far - 1 - far*1i, "33554431-33554432i"},
	} {
		if got := Show(x.z); got != x.want {
			t.Errorf("Show(%v) = %q, want %q", x.z, got, x.want)
		}
	}
	for _, z := range notWhole() {
		if got := Show(z); got != "" {
			t.Errorf("Show(%v) = %q", z, got)
		}
	}
	for _, re := range wholeParts {
		for _, im := range wholeParts {
			want := strconv.Itoa(re) + "+" + strconv.Itoa(im) + "i"
			if im < 0 {
				want = strconv.Itoa(re) + strconv.Itoa(im) + "i"
			}
			if got := Show(complex(float64(re), float64(im))); got != want {
				t.Errorf("Show = %q, want %q", got, want)
			}
		}
	}
}

// The reference: pairs of whole numbers.
type pair struct{ re, im int }

func (p pair) number() complex128 { return complex(float64(p.re), float64(p.im)) }
func (p pair) norm() int          { return p.re*p.re + p.im*p.im }
func (p pair) times(q pair) pair {
	return pair{p.re*q.re - p.im*q.im, p.re*q.im + p.im*q.re}
}

// byMirror is p times q's mirror: p / q, times q's norm.
func (p pair) byMirror(q pair) pair { return p.times(pair{q.re, -q.im}) }

// roundUp looks for the nearest whole number: twice its distance is between -under, which counts, and under, which doesn't.
func roundUp(over, under int) int {
	n := over / under
	for 2*(over-n*under) >= under {
		n++
	}
	for 2*(over-n*under) < -under {
		n--
	}
	return n
}

func (p pair) divides(q pair) bool {
	if p.norm() == 0 {
		return q.norm() == 0
	}
	x := q.byMirror(p)
	return x.re%p.norm() == 0 && x.im%p.norm() == 0
}

func testDivision(t *testing.T, a, b pair) {
	t.Helper()
	x := a.byMirror(b)
	q := pair{roundUp(x.re, b.norm()), roundUp(x.im, b.norm())}
	qb := q.times(b)
	r := pair{a.re - qb.re, a.im - qb.im}
	if 2*r.norm() > b.norm() {
		t.Fatalf("of %v by %v too much is left: %v", a, b, r)
	}
	gotQ, gotR, e := Divide(a.number(), b.number())
	if gotQ != q.number() || gotR != r.number() || e != api.OK {
		t.Fatalf("Divide(%v, %v) = %v, %v, %d, want %v, %v", a, b, gotQ, gotR, e, q, r)
	}
}

// testCommon knows the answer by what makes it the only one: it divides both, each that divides both divides it, and it is in the first quarter.
func testCommon(t *testing.T, a, b pair) {
	t.Helper()
	var best pair
	for re := 1; re*re <= max(a.norm(), b.norm()); re++ {
		for im := 0; re*re+im*im <= max(a.norm(), b.norm()); im++ {
			if p := (pair{re, im}); p.norm() > best.norm() && p.divides(a) && p.divides(b) {
				best = p
			}
		}
	}
	if got, e := Common(a.number(), b.number()); got != best.number() || e != api.OK {
		t.Fatalf("Common(%v, %v) = %v, %d, want %v", a, b, got, e, best)
	}
}

func TestAgainstPairs(t *testing.T) { // P3.2
	const near = 5
	var all []pair
	for re := -near; re <= near; re++ {
		for im := -near; im <= near; im++ {
			all = append(all, pair{re, im})
		}
	}
	for _, a := range all {
		for _, b := range all {
			testCommon(t, a, b)
			if b.norm() > 0 {
				testDivision(t, a, b)
			}
		}
	}
}

// some is a pair of a norm up to 2^25, of any size.
func some(src *rand.Rand) pair {
	size := 1 << src.Intn(14)
	for {
		p := pair{src.Intn(2*size+1) - size, src.Intn(2*size+1) - size}
		if p.norm() <= topNorm {
			return p
		}
	}
}

func TestAgainstGreatPairs(t *testing.T) { // P3.2
	src := rand.New(rand.NewSource(3))
	for range 20000 {
		a, b := some(src), some(src)
		if b.norm() > 0 {
			testDivision(t, a, b)
		}
		c, e := Common(a.number(), b.number())
		re, im, ok := Parts(c)
		p := pair{re, im}
		if e != api.OK || !ok || !p.divides(a) || !p.divides(b) {
			t.Fatalf("Common(%v, %v) = %v, %d", a, b, c, e)
		}
		if p != (pair{}) && (re <= 0 || im < 0) {
			t.Fatalf("Common(%v, %v) = %v isn't in the first quarter", a, b, c)
		}
		if p == (pair{}) {
			continue
		}
		// What both are, divided by all that is common, has nothing in common but 1.
		qa, _, _ := Divide(a.number(), c)
		qb, _, _ := Divide(b.number(), c)
		if one, e := Common(qa, qb); one != 1 || e != api.OK {
			t.Fatalf("Common(%v, %v) = %v, but %v more is common", a, b, c, one)
		}
	}
}

func TestHalvesOfEvenNorms(t *testing.T) { // P3.2: quotients that are halfway, of divisors of many sizes
	src := rand.New(rand.NewSource(4))
	for range 5000 {
		b := pair{2 * (src.Intn(200) - 100), 2 * (src.Intn(200) - 100)}
		if b.norm() == 0 {
			continue
		}
		h := pair{src.Intn(21) - 10, src.Intn(21) - 10} // a / b in halves
		x := h.times(b)
		testDivision(t, pair{x.re / 2, x.im / 2}, b)
	}
}

func TestEndsAtAnyNumbers(t *testing.T) { // P1
	ints := append([]int{math.MinInt, math.MaxInt, far + 1, -far - 1}, wholeParts...)
	for _, a := range ints {
		Turn(a)
		for _, b := range ints {
			Of(a, b)
		}
	}
	odd := append(notWhole(), tooGreat()...)
	for i, z := range odd {
		Norm(z)
		Mirror(z)
		for _, w := range odd[i%31:] {
			Divide(z, w)
			Common(z, w)
		}
	}
}
