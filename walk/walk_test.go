package walk

import (
	"math"
	"math/rand"
	"slices"
	"strconv"
	"strings"
	"testing"

	"copyist/api"
)

// The bounds as the document says them, not as the program does.
const (
	far      = 33554432 // 2^25: how far a part may be from 0
	longText = 1048576  // 2^20: how many bytes a text may have
)

var (
	minusZero = math.Copysign(0, -1)
	nan       = math.NaN()
	endless   = math.Inf(1)
)

// turned are 1, turned by 0 to 3 quarters.
var turned = []complex128{1, 1i, -1, -1i}

// oddParts are no parts of a whole number.
var oddParts = []float64{
	0.5, -0.5, 1.5, -7.25, 5e-324, 1 - 1e-16, far - 0.5, far + 0.5, -far - 0.5,
	far + 1, -far - 1, 2 * far, 1 << 40, 1 << 63, 1 << 64, -(1 << 63), 1e300, -math.MaxFloat64,
	endless, -endless, nan,
}

// notWhole has each odd part in either place, beside parts that are right and beside one another.
func notWhole() []complex128 {
	var out []complex128
	for _, x := range oddParts {
		for _, y := range []float64{0, minusZero, 1, -3, far, -far} {
			out = append(out, complex(x, y), complex(y, x))
		}
		for _, y := range oddParts {
			out = append(out, complex(x, y))
		}
	}
	return out
}

// notTurned are no turned 1.
func notTurned() []complex128 {
	return append(notWhole(), 0, complex(minusZero, minusZero), 2, -2, 2i, -2i, 1+1i, 1-1i, -1+1i, -1-1i, 1+2i, far, -far*1i)
}

// The reference: how often a walk turns by a quarter, and two whole parts.
type route struct{ quarters, re, im int }

func (r route) walk() Walk {
	return Walk{turned[r.quarters], complex(float64(r.re), float64(r.im))}
}

// lead is where the route leads from a place, turned quarter by quarter.
func (r route) lead(re, im int) (int, int) {
	for range r.quarters {
		re, im = -im, re
	}
	return re + r.re, im + r.im
}

func (r route) then(s route) route {
	re, im := s.lead(r.re, r.im)
	return route{(r.quarters + s.quarters) % 4, re, im}
}

func byteRoute(b int) route { return route{b % 4, b/4%8 + 1, b/32 + 1} }

func textRoute(s string) route {
	var r route
	for _, b := range []byte(s) {
		r = r.then(byteRoute(int(b)))
	}
	return r
}

// routes are some of all quarters, near to 0 and far from it.
func routes(steps ...int) []route {
	var out []route
	for quarters := range 4 {
		for _, re := range steps {
			for _, im := range steps {
				out = append(out, route{quarters, re, im})
			}
		}
	}
	return out
}

func same(t *testing.T, what string, got Walk, want Walk) {
	t.Helper()
	if got != want {
		t.Errorf("%s: %v, want %v", what, got, want)
	}
}

func TestStay(t *testing.T) { // P4.1
	same(t, "Stay", Stay(), Walk{1, 0})
	for _, z := range []complex128{0, 1, -3i, far - far*1i} {
		if got := Stay().Apply(z); got != z {
			t.Errorf("Stay leads from %v to %v", z, got)
		}
	}
}

func TestOf(t *testing.T) { // P4.1
	for _, x := range []struct {
		b    byte
		want Walk
	}{
		{97, Walk{1i, 1 + 4i}}, // the chapter's example
		{0, Walk{1, 1 + 1i}}, {1, Walk{1i, 1 + 1i}}, {2, Walk{-1, 1 + 1i}}, {3, Walk{-1i, 1 + 1i}},
		{4, Walk{1, 2 + 1i}}, {28, Walk{1, 8 + 1i}}, {31, Walk{-1i, 8 + 1i}}, {32, Walk{1, 1 + 2i}},
		{127, Walk{-1i, 8 + 4i}}, {128, Walk{1, 1 + 5i}}, {251, Walk{-1i, 7 + 8i}}, {252, Walk{1, 8 + 8i}}, {255, Walk{-1i, 8 + 8i}},
	} {
		same(t, "Of "+strconv.Itoa(int(x.b)), Of(x.b), x.want)
	}
	seen := map[Walk]int{}
	for b := range 256 {
		w := Of(byte(b))
		same(t, "Of "+strconv.Itoa(b), w, byteRoute(b).walk())
		if !w.Right() {
			t.Errorf("the walk of %d may not be: %v", b, w)
		}
		seen[w]++
	}
	if len(seen) != 256 {
		t.Errorf("%d walks of 256 bytes", len(seen))
	}
}

func TestText(t *testing.T) { // P4.1
	same(t, "no bytes", Text(""), Stay())
	same(t, "a", Text("a"), Walk{1i, 1 + 4i})
	same(t, "aa", Text("aa"), Walk{-1, -3 + 5i}) // the chapter's example
	same(t, "aaaa", Text("aaaa"), Stay())
	same(t, "ab", Text("ab"), Walk{-1i, 0})
	same(t, "ba", Text("ba"), Walk{-1i, -3 + 5i})
	var all []byte
	for b := range 256 {
		all = append(all, byte(b))
		same(t, "one byte", Text(string([]byte{byte(b)})), Of(byte(b)))
		same(t, "the first bytes", Text(string(all)), textRoute(string(all)).walk())
	}
	// bytes, not runes: of this text no byte is a rune of its own
	same(t, "é€", Text("é€"), textRoute("\xc3\xa9\xe2\x82\xac").walk())
	same(t, "bytes that are no runes", Text("\xff\x80\x00"), textRoute("\xff\x80\x00").walk())
	src := rand.New(rand.NewSource(4))
	for range 200 {
		bytes := make([]byte, src.Intn(300))
		for i := range bytes {
			bytes[i] = byte(src.Intn(256))
		}
		k := src.Intn(len(bytes) + 1)
		s := string(bytes)
		same(t, "some text", Text(s), textRoute(s).walk())
		same(t, "two texts", Text(s[:k]).Then(Text(s[k:])), Text(s))
	}
}

func TestLongText(t *testing.T) { // P4.1
	for _, x := range []struct {
		b    byte
		want Walk
	}{
		{252, Walk{1, 8388608 + 8388608i}}, // each step goes on in one direction
		{0, Walk{1, 1048576 + 1048576i}},
		{'a', Stay()}, {'b', Stay()}, {'c', Stay()},
	} {
		same(t, "2^20 times "+strconv.Itoa(int(x.b)), Text(strings.Repeat(string([]byte{x.b}), longText)), x.want)
	}
	s := strings.Repeat("It is written.\n", longText/15)
	same(t, "a long text", Text(s), textRoute(s).walk())
}

func TestRight(t *testing.T) { // P4.1
	steps := []complex128{
		0, 1, -1i, 12 - 7i, complex(minusZero, minusZero),
		far, -far, far * 1i, -far * 1i, far + far*1i, -far - far*1i, -far + far*1i,
	}
	for _, turn := range append(turned, complex(1, minusZero), complex(minusZero, 1), complex(-1, minusZero), complex(minusZero, -1)) {
		for _, step := range steps {
			if w := (Walk{turn, step}); !w.Right() {
				t.Errorf("%v may not be", w)
			}
		}
		for _, step := range append(notWhole(), far+1, -far-1, (far+1)*1i, (-far-1)*1i) {
			if w := (Walk{turn, step}); w.Right() {
				t.Errorf("%v may be", w)
			}
		}
	}
	for _, turn := range notTurned() {
		for _, step := range append(steps, 0.5, complex(nan, nan)) {
			if w := (Walk{turn, step}); w.Right() {
				t.Errorf("%v may be", w)
			}
		}
	}
}

func TestApply(t *testing.T) { // P4.1
	for _, x := range []struct {
		w       Walk
		z, want complex128
	}{
		{Walk{1i, 1 + 4i}, 2, 1 + 6i},
		{Walk{1, 3}, -5i, 3 - 5i},
		{Walk{-1, 3}, 2 - 5i, 1 + 5i},
		{Walk{-1i, -1}, 2 + 3i, 2 - 2i},
		{Walk{1i, 0}, far - far*1i, far + far*1i},
		{Walk{-1, far + far*1i}, far, far * 1i},
		{Walk{1, far}, -far - far*1i, -far * 1i},
		{Walk{1, far - 1}, 1 - far*1i, far - far*1i},
		// a walk that may not be leads somewhere too
		{Walk{0, 5 - 1i}, 77, 5 - 1i}, {Walk{2, 1}, 3 + 1i, 7 + 2i}, {Walk{1 + 1i, 0}, 3 + 1i, 2 + 4i},
		{Walk{1i, 0.5}, 2.25, 0.5 + 2.25i}, {Walk{0.5, 0}, 3 - 1i, 1.5 - 0.5i},
	} {
		if got := x.w.Apply(x.z); got != x.want {
			t.Errorf("%v leads from %v to %v, want %v", x.w, x.z, got, x.want)
		}
	}
	places := []int{0, 1, -1, 3, -8, 4096, -16777216, 16777216}
	for _, r := range routes(places...) {
		for _, re := range places {
			for _, im := range places {
				a, b := r.lead(re, im)
				want := complex(float64(a), float64(b))
				if got := r.walk().Apply(complex(float64(re), float64(im))); got != want {
					t.Fatalf("%v leads from %d, %d to %v, want %v", r, re, im, got, want)
				}
			}
		}
	}
}

func TestThen(t *testing.T) { // P4.1
	a, b, c := Walk{1i, 1 + 4i}, Walk{-1, 1 + 4i}, Walk{1, -7}
	same(t, "a", a.Then(), a)
	same(t, "a, and an empty list", a.Then([]Walk{}...), a)
	same(t, "a, a", a.Then(a), Walk{-1, -3 + 5i}) // the chapter's example
	same(t, "a, b", a.Then(b), Walk{-1i, 0})
	same(t, "b, a", b.Then(a), Walk{-1i, -3 + 5i})
	same(t, "a, b, c", a.Then(b, c), Walk{-1i, -7})
	same(t, "c, b, a", c.Then(b, a), Walk{-1i, -3 + 12i})
	same(t, "a, a, a, a", a.Then(a, a, a), Stay())
	same(t, "Stay, a", Stay().Then(a), a)
	same(t, "a, Stay", a.Then(Stay()), a)
	// walks that may not be
	same(t, "twice as far", Walk{2, 1}.Then(Walk{3, 1}), Walk{6, 4})
	same(t, "to one place", a.Then(Walk{0, 2i}, a), Walk{0, -1 + 4i})
	same(t, "halves", Walk{1i, 0.5}.Then(Walk{1i, 0.25}), Walk{-1, 0.25 + 0.5i})
	// as far as may be
	same(t, "far", Walk{-1, far}.Then(Walk{-1, -far * 1i}), Walk{1, -far - far*1i})
	same(t, "far and back", Walk{1, -far}.Then(Walk{1, far}, Walk{1, far}), Walk{1, far})

	some := routes(-3, 0, 8, 8000000)
	for i, r := range some {
		for j, s := range some {
			u := some[(7*i+11*j)%len(some)]
			same(t, "two", r.walk().Then(s.walk()), r.then(s).walk())
			same(t, "three", r.walk().Then(s.walk(), u.walk()), r.then(s).then(u).walk())
			const z = 5 - 2i
			if one, two := r.walk().Then(s.walk()).Apply(z), s.walk().Apply(r.walk().Apply(z)); one != two {
				t.Fatalf("%v, %v: as one to %v, one by one to %v", r, s, one, two)
			}
		}
	}
}

func TestThenLeavesWalks(t *testing.T) { // what is handed in isn't changed, its spare room neither
	room := []Walk{{1i, 1}, {-1, 2i}, {-1i, 3}}
	w := Walk{-1i, 9}
	w.Then(room[:2]...)
	if want := []Walk{{1i, 1}, {-1, 2i}, {-1i, 3}}; !slices.Equal(room, want) || w != (Walk{-1i, 9}) {
		t.Errorf("%v, %v", room, w)
	}
}

func TestBack(t *testing.T) { // P4.1
	for _, x := range []struct{ w, want Walk }{
		{Stay(), Stay()},
		{Walk{1i, 1 + 4i}, Walk{-1i, -4 + 1i}},
		{Walk{-1i, 1 + 4i}, Walk{1i, 4 - 1i}},
		{Walk{-1, 1 + 4i}, Walk{-1, 1 + 4i}},
		{Walk{1, 1 + 4i}, Walk{1, -1 - 4i}},
		{Walk{1i, far - far*1i}, Walk{-1i, far + far*1i}},
		{Walk{1, -far - far*1i}, Walk{1, far + far*1i}},
		// walks that may not be
		{Walk{2, 3 - 8i}, Walk{0.5, -1.5 + 4i}}, {Walk{0.5, 3}, Walk{2, -6}}, {Walk{-4i, 8}, Walk{0.25i, -2i}},
		{Walk{1 + 1i, 6}, Walk{0.5 - 0.5i, -3 + 3i}}, {Walk{1i, 0.5}, Walk{-1i, 0.5i}},
	} {
		same(t, "Back", x.w.Back(), x.want)
		same(t, "Back, twice", x.w.Back().Back(), x.w)
	}
	some := routes(0, 1, -5, 300, -far, far)
	for _, r := range some {
		w := r.walk()
		if !w.Back().Right() {
			t.Errorf("the way back of %v may not be: %v", w, w.Back())
		}
		same(t, "there and back", w.Then(w.Back()), Stay())
		same(t, "back and there", w.Back().Then(w), Stay())
	}
	near := routes(0, 1, -5, 300)
	for _, r := range near {
		for _, s := range near {
			v, w := r.walk(), s.walk()
			same(t, "two, and back", v.Then(w).Back(), w.Back().Then(v.Back()))
			same(t, "one of two back", v.Then(w, w.Back()), v)
			const z = -17 + 4i
			if got := w.Back().Apply(w.Apply(z)); got != z {
				t.Fatalf("%v leads back to %v", w, got)
			}
		}
	}
}

func TestTimes(t *testing.T) { // P4.1
	a := Walk{1i, 1 + 4i}
	same(t, "twice", a.Times(2), Walk{-1, -3 + 5i}) // the chapter's example
	for _, r := range routes(0, 1, -3, 17) {
		var want route
		for n := range 70 {
			same(t, strconv.Itoa(n)+" times", r.walk().Times(n), want.walk())
			want = want.then(r)
		}
		same(t, "once", r.walk().Times(1), r.walk())
	}
	for _, w := range []Walk{a, Stay(), {1, far}, {2, 1}, {1, 0.5}} {
		for _, n := range []int{0, -1, -2, -3, -1000, math.MinInt + 1, math.MinInt} {
			same(t, strconv.Itoa(n)+" times", w.Times(n), Stay())
		}
	}
	same(t, "once, far", Walk{1i, far - far*1i}.Times(1), Walk{1i, far - far*1i})
	same(t, "as far as may be", Walk{1, 1 - 1i}.Times(far), Walk{1, far - far*1i})
	same(t, "nearly as far", Walk{1, -1i}.Times(far-1), Walk{1, (1 - far) * 1i})
	same(t, "in three", Walk{1, 11184810}.Times(3), Walk{1, 33554430})
	// walks that may not be
	same(t, "twice as far, each time", Walk{2, 1}.Times(10), Walk{1024, 1023})
	same(t, "to one place", Walk{0, 5i}.Times(math.MaxInt), Walk{0, 5i})
	same(t, "halves", Walk{1, 0.5}.Times(7), Walk{1, 3.5})
}

func TestTimesOfWhatComesBack(t *testing.T) { // P4.1
	for _, step := range []complex128{0, 1, 3 - 8i, -100 + 7i, 8000000 - 8000000i} {
		for _, turn := range turned[1:] {
			w := Walk{turn, step}
			for _, n := range []int{math.MaxInt, math.MaxInt - 1, math.MaxInt - 2, math.MaxInt - 3, 1 << 62, 1<<62 + 1, 1<<40 + 3} {
				same(t, strconv.Itoa(n)+" times", w.Times(n), w.Times(n%4))
			}
			same(t, "four times", w.Times(4), Stay())
			same(t, "the least number", w.Times(math.MinInt), Stay())
		}
	}
	same(t, "nowhere", Stay().Times(math.MaxInt), Stay())
	same(t, "three quarters", Walk{1i, 1 + 4i}.Times(math.MaxInt), Walk{-1i, -4 + 1i})
}

func TestFix(t *testing.T) { // P4.2
	for _, x := range []struct {
		w    Walk
		want complex128
		e    api.Errno
	}{
		{Stay(), 0, api.ErrNone}, {Walk{1, 3}, 0, api.ErrNone}, {Walk{complex(1, minusZero), 0}, 0, api.ErrNone},
		{Walk{-1, 0}, 0, api.OK}, {Walk{-1, 4 + 2i}, 2 + 1i, api.OK}, {Walk{-1, -6 + 2i}, -3 + 1i, api.OK},
		{Walk{-1, 3}, 0, api.ErrNone}, {Walk{-1, 4 + 1i}, 0, api.ErrNone}, {Walk{-1, 1i}, 0, api.ErrNone}, {Walk{-1, -1 - 1i}, 0, api.ErrNone},
		{Walk{1i, 0}, 0, api.OK}, {Walk{1i, 2}, 1 + 1i, api.OK}, {Walk{1i, 1 + 1i}, 1i, api.OK}, {Walk{1i, -1 - 3i}, 1 - 2i, api.OK},
		{Walk{1i, 1}, 0, api.ErrNone}, {Walk{1i, 1 + 4i}, 0, api.ErrNone}, {Walk{1i, -2 + 1i}, 0, api.ErrNone},
		{Walk{-1i, 0}, 0, api.OK}, {Walk{-1i, 2}, 1 - 1i, api.OK}, {Walk{-1i, 1 + 1i}, 1, api.OK}, {Walk{-1i, 3 - 1i}, 1 - 2i, api.OK},
		{Walk{-1i, 1i}, 0, api.ErrNone}, {Walk{-1i, 2 - 1i}, 0, api.ErrNone}, {Walk{-1i, -7 + 8i}, 0, api.ErrNone},
		{Walk{complex(-1, minusZero), complex(2, minusZero)}, 1, api.OK}, {Walk{complex(minusZero, 1), complex(minusZero, 2)}, -1 + 1i, api.OK},
	} {
		if got, e := x.w.Fix(); got != x.want || e != x.e {
			t.Errorf("%v.Fix() = %v, %d, want %v, %d", x.w, got, e, x.want, x.e)
		}
	}
}

func TestFixAtTheBound(t *testing.T) { // P4.2
	for _, x := range []struct {
		w    Walk
		want complex128
	}{ // steps of norm 2^24
		{Walk{-1, 4096}, 2048}, {Walk{-1, -4096i}, -2048i},
		{Walk{1i, 4096}, 2048 + 2048i}, {Walk{1i, 4096i}, -2048 + 2048i},
		{Walk{-1i, 4096}, 2048 - 2048i}, {Walk{-1i, -4096}, -2048 + 2048i},
		{Walk{-1, 4094 + 126i}, 2047 + 63i}, // 16776712
	} {
		if got, e := x.w.Fix(); got != x.want || e != api.OK {
			t.Errorf("%v.Fix() = %v, %d, want %v", x.w, got, e, x.want)
		}
	}
	if got, e := (Walk{1, 4096}).Fix(); got != 0 || e != api.ErrNone {
		t.Errorf("Turn 1, at the bound: %v, %d", got, e)
	}
	for _, turn := range turned { // 2^24 + 1 and above, of a Turn of 1 too
		for _, step := range []complex128{4096 + 1i, 1 - 4096i, -4096 + 1i, 4096 + 2i, 4097, 4098i, 5000, -5000i, far, -far - far*1i} {
			if got, e := (Walk{turn, step}).Fix(); got != 0 || e != api.ErrRange {
				t.Errorf("%v by %v: %v, %d", turn, step, got, e)
			}
		}
	}
}

func TestFixOfWhatMayNotBe(t *testing.T) { // P4.2
	outOfRange := func(w Walk) {
		t.Helper()
		if got, e := w.Fix(); got != 0 || e != api.ErrRange {
			t.Errorf("%v.Fix() = %v, %d", w, got, e)
		}
	}
	outOfRange(Walk{})
	for _, turn := range turned {
		for _, step := range append(notWhole(), far+1, -far-1, (far+1)*1i, (-far-1)*1i) {
			outOfRange(Walk{turn, step})
		}
	}
	for _, turn := range notTurned() {
		for _, step := range []complex128{0, 2, 4 + 2i, 4096, 0.5, complex(nan, endless), far} {
			outOfRange(Walk{turn, step})
		}
	}
}

// TestFixAgainstSearch tries each place near enough: one that stays is no farther from 0 than the step is long.
func TestFixAgainstSearch(t *testing.T) { // P4.2
	for quarters := range 4 {
		for re := -6; re <= 6; re++ {
			for im := -6; im <= 6; im++ {
				r := route{quarters, re, im}
				stay := []complex128{}
				for x := -9; x <= 9; x++ {
					for y := -9; y <= 9; y++ {
						if a, b := r.lead(x, y); a == x && b == y {
							stay = append(stay, complex(float64(x), float64(y)))
						}
					}
				}
				got, e := r.walk().Fix()
				if quarters == 0 || len(stay) == 0 {
					if got != 0 || e != api.ErrNone {
						t.Errorf("%v: %v, %d, want none", r, got, e)
					}
				} else if got != stay[0] || e != api.OK || len(stay) != 1 {
					t.Errorf("%v: %v, %d, want %v", r, got, e, stay)
				}
			}
		}
	}
}

func TestFixStays(t *testing.T) { // P4.2: of a place that is led to itself, the walk is made
	src := rand.New(rand.NewSource(5))
	for range 5000 {
		re, im := src.Intn(4001)-2000, src.Intn(4001)-2000
		z := complex(float64(re), float64(im))
		for quarters := 1; quarters < 4; quarters++ {
			a, b := route{quarters: quarters}.lead(re, im)
			step := route{quarters, re - a, im - b}
			got, e := step.walk().Fix()
			if (re-a)*(re-a)+(im-b)*(im-b) > 16777216 {
				if got != 0 || e != api.ErrRange {
					t.Fatalf("%v: %v, %d", step, got, e)
				}
			} else if got != z || e != api.OK {
				t.Fatalf("%v: %v, %d, want %v", step, got, e, z)
			}
		}
	}
}

func TestShow(t *testing.T) { // P4.2
	for _, x := range []struct {
		w    Walk
		want string
	}{
		{Stay(), "1+0i 0+0i"},
		{Walk{1i, 1 + 4i}, "0+1i 1+4i"}, {Walk{-1, -3 + 5i}, "-1+0i -3+5i"}, {Walk{-1i, 3 - 5i}, "0-1i 3-5i"},
		{Walk{complex(1, minusZero), complex(minusZero, minusZero)}, "1+0i 0+0i"},
		{Walk{complex(minusZero, -1), complex(minusZero, -7)}, "0-1i 0-7i"},
		{Walk{complex(-1, minusZero), complex(12, minusZero)}, "-1+0i 12+0i"},
		{Walk{complex(minusZero, 1), 0}, "0+1i 0+0i"},
		{Walk{-1i, far - far*1i}, "0-1i 33554432-33554432i"}, {Walk{1, -far + far*1i}, "1+0i -33554432+33554432i"},
	} {
		if got := x.w.Show(); got != x.want {
			t.Errorf("%v.Show() = %q, want %q", x.w, got, x.want)
		}
	}
	for quarters, turn := range []string{"1+0i", "0+1i", "-1+0i", "0-1i"} {
		for _, re := range []int{23, 0, -23, far, -far} {
			for _, im := range []int{104, 0, -104, far, -far} {
				sign := "+"
				if im < 0 {
					sign = ""
				}
				want := turn + " " + strconv.Itoa(re) + sign + strconv.Itoa(im) + "i"
				if got := (route{quarters, re, im}).walk().Show(); got != want {
					t.Errorf("Show = %q, want %q", got, want)
				}
			}
		}
	}
}

func TestEndsAtAnyNumbers(t *testing.T) { // P1
	odd := append(notTurned(), turned...)
	for i, turn := range odd {
		for j := i % 7; j < len(odd); j += 7 {
			w := Walk{turn, odd[j]}
			w.Right()
			w.Apply(odd[len(odd)-1-j])
			w.Then(w, Stay(), w)
			w.Back()
			w.Fix()
			w.Show()
			for _, n := range []int{math.MinInt, -1, 0, 1, 2, 3, 1 << 40, math.MaxInt - 1, math.MaxInt} {
				w.Times(n)
			}
		}
	}
	Text(strings.Repeat("\xfc", 3*longText))
}
