package ident

import (
	"math"
	"regexp"
	"slices"
	"strconv"
	"strings"
	"testing"

	"copyist/api"
)

// The bounds as the document says them, not as the program does.
const (
	lastN     = 268435456     // MaxN
	lastClock = 1099511627776 // MaxClock
)

func TestRoot(t *testing.T) { // P1.1
	for _, x := range []struct {
		a    ID
		want bool
	}{
		{ID{}, true},
		{ID{R: 0, N: 0}, true},
		{ID{R: 1}, false},
		{ID{R: 65535}, false},
		{ID{N: 1}, false},
		{ID{N: math.MaxUint32}, false},
		{ID{R: 1, N: 1}, false},
	} {
		if got := x.a.Root(); got != x.want {
			t.Errorf("%v.Root() = %v", x.a, got)
		}
	}
}

func TestRight(t *testing.T) { // P1.1
	for _, x := range []struct {
		n    uint32
		want bool
	}{
		{0, false},
		{1, true},
		{2, true},
		{lastN - 1, true},
		{lastN, true},
		{lastN + 1, false},
		{math.MaxUint32, false},
	} {
		for _, r := range []uint16{0, 1, 65535} {
			a := ID{R: r, N: x.n}
			if got := a.Right(); got != x.want {
				t.Errorf("%v.Right() = %v", a, got)
			}
		}
	}
}

func TestCompareIDs(t *testing.T) { // P1.1
	rising := []ID{
		{}, {0, 1}, {0, lastN}, {0, math.MaxUint32},
		{1, 0}, {1, 7}, {1, 8},
		{2, 3}, {2, 1 << 31},
		{1 << 15, 0}, {65535, 0}, {65535, math.MaxUint32},
	}
	for i, a := range rising {
		for j, b := range rising {
			if got, want := a.Compare(b), order(i, j); got != want {
				t.Errorf("%v.Compare(%v) = %d, want %d", a, b, got, want)
			}
		}
	}
}

func TestCompareKeys(t *testing.T) { // P1.1
	rising := []Key{
		{}, {0, 0, 1}, {0, 0, math.MaxUint32}, {0, 1, 0}, {0, 65535, math.MaxUint32},
		{3, 0, 0}, {3, 1, 9}, {3, 2, 1}, {3, 2, 2},
		{4, 0, 0}, {1 << 32, 0, 0}, {lastClock, 0, 0},
		{1 << 63, 0, 0}, {math.MaxUint64, 0, 0}, {math.MaxUint64, 65535, math.MaxUint32},
	}
	for i, k := range rising {
		for j, o := range rising {
			if got, want := k.Compare(o), order(i, j); got != want {
				t.Errorf("%v.Compare(%v) = %d, want %d", k, o, got, want)
			}
		}
	}
}

func order(i, j int) int {
	switch {
	case i < j:
		return -1
	case i > j:
		return 1
	}
	return 0
}

func TestPlus(t *testing.T) { // P1.1
	for _, x := range []struct {
		from uint32
		n    int
		want uint32
	}{
		{0, 0, 0},
		{0, 1, 1},
		{9, 0, 9},
		{9, 3, 12},
		{1, 1 << 20, 1048577},
		{lastN, 1, lastN + 1},
		{math.MaxUint32, 0, math.MaxUint32},
		{math.MaxUint32, 1, 0},
		{math.MaxUint32, 1 << 20, 1048575},
		{4294967290, 10, 4},
	} {
		a := ID{R: 65535, N: x.from}
		if got := a.Plus(x.n); got != (ID{R: 65535, N: x.want}) {
			t.Errorf("%v.Plus(%d) = %v", a, x.n, got)
		}
		k := Key{Clock: math.MaxUint64, R: 65535, N: x.from}
		if got := k.Plus(x.n); got != (Key{Clock: math.MaxUint64, R: 65535, N: x.want}) {
			t.Errorf("%v.Plus(%d) = %v", k, x.n, got)
		}
	}
}

func TestPlusEndsAtAnyNumber(t *testing.T) { // P1
	for _, n := range []int{-1, math.MinInt, math.MaxInt, 1<<20 + 1, 1 << 32} {
		ID{R: 1, N: 1}.Plus(n)
		Key{Clock: 1, R: 1, N: 1}.Plus(n)
	}
}

func TestKeyID(t *testing.T) { // P1.1
	for _, k := range []Key{{}, {5, 0, 0}, {5, 9, 1}, {0, 65535, math.MaxUint32}} {
		if got := k.ID(); got != (ID{R: k.R, N: k.N}) {
			t.Errorf("%v.ID() = %v", k, got)
		}
	}
}

var shown = []struct {
	a ID
	s string
}{
	{ID{}, "0:0"},
	{ID{R: 1, N: 9}, "1:9"},
	{ID{R: 9, N: 1}, "9:1"},
	{ID{R: 0, N: 10}, "0:10"},
	{ID{R: 100, N: 0}, "100:0"},
	{ID{R: 1, N: lastN}, "1:268435456"},
	{ID{R: 1, N: lastN + 1}, "1:268435457"},
	{ID{R: 1, N: 1 << 31}, "1:2147483648"},
	{ID{R: 1 << 15, N: 1}, "32768:1"},
	{ID{R: 65535, N: math.MaxUint32}, "65535:4294967295"},
}

func TestShow(t *testing.T) { // P1.2
	for _, x := range shown {
		if got := x.a.Show(); got != x.s {
			t.Errorf("%v.Show() = %q, want %q", x.a, got, x.s)
		}
	}
}

func TestRead(t *testing.T) { // P1.2
	for _, x := range shown {
		if got, e := Read(x.s); got != x.a || e != api.OK {
			t.Errorf("Read(%q) = %v, %d", x.s, got, e)
		}
	}
}

func TestReadWhatShowsNoID(t *testing.T) { // P1.2
	for _, s := range []string{
		"", ":", "1", "12", "1:", ":1", // parts that are not there
		"00:0", "0:00", "01:1", "1:01", "00065535:1", // noughts ahead
		"-1:2", "1:-2", "+1:2", "1:+2", "-0:0", "0:-0", // signs
		" ", " 1:2", "1 :2", "1: 2", "1:2 ", "1:2\n", "\t1:2", "1:2\x00", // blanks and their like
		"::", "1::2", ":1:2", "1:2:", "1:2:3", // colons
		"65536:1", "65537:1", "99999:1", "1:4294967296", "1:4294967297", "1:9999999999",
		"18446744073709551616:1", "18446744073709551617:1", "1:18446744073709551616", "1:18446744073709551617",
		strings.Repeat("9", 1000) + ":1", "1:" + strings.Repeat("9", 1000), "1:" + strings.Repeat("0", 1000), // too great, too long
		"a:b", "1:b", "a:1", "1.0:2", "1e1:2", "0x1:2", "1:0x2", "1_0:2", "1:1_0", "1:2a", "1;2", "1,2",
		"\xff:1", "1:\xff", "\u0661:1", "1:\u0662", "1\uff1a2", // bytes past the digits
	} {
		if got, e := Read(s); got != (ID{}) || e != api.ErrForm {
			t.Errorf("Read(%q) = %v, %d", s, got, e)
		}
	}
}

// A pattern says the form in another way than the program does; short texts are all held against it.
func TestReadAllShortTexts(t *testing.T) { // P1.2
	form := regexp.MustCompile(`^(0|[1-9][0-9]*):(0|[1-9][0-9]*)\z`)
	var all func(s string, left int)
	all = func(s string, left int) {
		want, wantE := ID{}, api.ErrForm
		if m := form.FindStringSubmatch(s); m != nil {
			r, _ := strconv.Atoi(m[1])
			n, _ := strconv.Atoi(m[2])
			want, wantE = ID{R: uint16(r), N: uint32(n)}, api.OK
		}
		if got, e := Read(s); got != want || e != wantE {
			t.Errorf("Read(%q) = %v, %d, want %v, %d", s, got, e, want, wantE)
		}
		if left == 0 {
			return
		}
		for _, c := range "0179:-+ _" {
			all(s+string(c), left-1)
		}
	}
	all("", 5)
	all("1:", 4)
}

func TestReadGivesBackWhatIsShown(t *testing.T) { // P1.2
	for r := 0; r <= 65535; r += 13 {
		a := ID{R: uint16(r), N: uint32(r) * 65537}
		if got, e := Read(a.Show()); got != a || e != api.OK {
			t.Errorf("Read(%q) = %v, %d", a.Show(), got, e)
		}
	}
}

func TestTick(t *testing.T) { // P1.3
	for _, x := range []struct {
		clock, want uint64
		e           api.Errno
	}{
		{0, 1, api.OK},
		{1, 2, api.OK},
		{math.MaxUint32, 1 << 32, api.OK},
		{lastClock - 2, lastClock - 1, api.OK},
		{lastClock - 1, lastClock, api.OK},
		{lastClock, 0, api.ErrOverflow},
		{lastClock + 1, 0, api.ErrOverflow},
		{1 << 63, 0, api.ErrOverflow},
		{math.MaxUint64, 0, api.ErrOverflow},
	} {
		if got, e := Tick(x.clock); got != x.want || e != x.e {
			t.Errorf("Tick(%d) = %d, %d, want %d, %d", x.clock, got, e, x.want, x.e)
		}
	}
}

func TestLater(t *testing.T) { // P1.3
	for _, x := range []struct {
		clock uint64
		more  []uint64
		want  uint64
	}{
		{0, nil, 0},
		{5, nil, 5},
		{5, []uint64{}, 5},
		{0, []uint64{0}, 0},
		{5, []uint64{5}, 5},
		{5, []uint64{4}, 5},
		{5, []uint64{6}, 6},
		{5, []uint64{9, 7}, 9},
		{5, []uint64{7, 9}, 9},
		{9, []uint64{7, 5, 0}, 9},
		{1, []uint64{2, 8, 3}, 8},
		{0, []uint64{lastClock, lastClock + 1}, lastClock + 1},
		{1, []uint64{math.MaxUint64, 2}, math.MaxUint64},
		{math.MaxUint64, []uint64{0, 1 << 63}, math.MaxUint64},
	} {
		before := slices.Clone(x.more)
		if got := Later(x.clock, x.more...); got != x.want {
			t.Errorf("Later(%d, %v) = %d, want %d", x.clock, x.more, got, x.want)
		}
		if !slices.Equal(before, x.more) {
			t.Errorf("Later changed %v to %v", before, x.more)
		}
	}
}

func TestTake(t *testing.T) { // P1.3
	for _, x := range []struct {
		next  uint32
		count int
		want  uint32
		e     api.Errno
	}{
		{5, 3, 8, api.OK},
		{1, 0, 1, api.OK},
		{1, 1, 2, api.OK},
		{1, lastN - 1, lastN, api.OK},
		{1, lastN, lastN + 1, api.OK},
		{1, lastN + 1, 0, api.ErrOverflow},
		{2, lastN - 1, lastN + 1, api.OK},
		{2, lastN, 0, api.ErrOverflow},
		{lastN, 0, lastN, api.OK},
		{lastN, 1, lastN + 1, api.OK},
		{lastN, 2, 0, api.ErrOverflow},
		{lastN + 1, 0, lastN + 1, api.OK},
		{lastN + 1, 1, 0, api.ErrOverflow},
		{lastN + 2, 0, 0, api.ErrOverflow},
		{math.MaxUint32, 0, 0, api.ErrOverflow},
		{math.MaxUint32, 1, 0, api.ErrOverflow},
		{math.MaxUint32, 2, 0, api.ErrOverflow},
		{1, math.MaxInt32, 0, api.ErrOverflow},
		{1, 1<<32 - 1, 0, api.ErrOverflow},
		{1, 1 << 32, 0, api.ErrOverflow},
		{1, math.MaxInt, 0, api.ErrOverflow},
		{math.MaxUint32, math.MaxInt, 0, api.ErrOverflow},
		{1, -1, 0, api.ErrRange},
		{1, math.MinInt, 0, api.ErrRange},
		{lastN, -1, 0, api.ErrRange},
		{0, 0, 0, api.ErrRange},
		{0, 1, 0, api.ErrRange},
		{0, lastN + 1, 0, api.ErrRange},
		{0, lastN + 2, 0, api.ErrRange}, // ErrRange is named ahead of ErrOverflow
		{0, math.MaxInt, 0, api.ErrRange},
		{0, -1, 0, api.ErrRange},
		{lastN + 2, -1, 0, api.ErrRange},
		{math.MaxUint32, -1, 0, api.ErrRange},
	} {
		if got, e := Take(x.next, x.count); got != x.want || e != x.e {
			t.Errorf("Take(%d, %d) = %d, %d, want %d, %d", x.next, x.count, got, e, x.want, x.e)
		}
	}
}
