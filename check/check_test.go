package check

import (
	"bytes"
	"hash/crc32"
	"math/bits"
	"math/rand"
	"slices"
	"testing"
)

// The chapter's number, with the bit ahead of its 32 that falls out, as the document says it, not as the program does.
var divisor = bitsOf([]byte{0x1e, 0xdc, 0x6f, 0x41}, 1)

// bitsOf are bytes' bits, of each byte the highest one first, behind others.
func bitsOf(b []byte, ahead ...byte) []byte {
	out := slices.Clone(ahead)
	for _, x := range b {
		for i := 7; i >= 0; i-- {
			out = append(out, x>>i&1)
		}
	}
	return out
}

// plainSum is the reference: what is left of all bits, and 32 of 0 behind them, the first 32 turned over, when they are divided as on paper; turned over.
func plainSum(b []byte) uint32 {
	row := append(bitsOf(b), make([]byte, 32)...)
	for i := range 32 {
		row[i] ^= 1
	}
	for i := range len(row) - 32 {
		if row[i] == 1 {
			for j, bit := range divisor {
				row[i+j] ^= bit
			}
		}
	}
	var left uint32
	for _, bit := range row[len(row)-32:] {
		left = left*2 + uint32(bit)
	}
	return 0xffffffff - left
}

// librarySum is a second reference: Go's own sum by the same number goes from each byte's lowest bit on, so that all bits are mirrored.
func librarySum(b []byte) uint32 {
	mirrored := make([]byte, len(b))
	for i, x := range b {
		mirrored[i] = bits.Reverse8(x)
	}
	return bits.Reverse32(crc32.Checksum(mirrored, crc32.MakeTable(crc32.Castagnoli)))
}

func fourBytes(n uint32) []byte {
	return []byte{byte(n / 0x1000000), byte(n / 0x10000), byte(n / 0x100), byte(n)}
}

func plainSeal(b []byte) []byte { return append(slices.Clone(b), fourBytes(plainSum(b))...) }

func plainOpen(b []byte) ([]byte, bool) {
	if len(b) < 4 {
		return nil, false
	}
	inside, seal := b[:len(b)-4], b[len(b)-4:]
	if !bytes.Equal(fourBytes(plainSum(inside)), seal) {
		return nil, false
	}
	return inside, true
}

// refused tells whether Open finds that nothing was sealed, and tells nothing beside.
func refused(b []byte) bool {
	inside, ok := Open(b)
	return !ok && len(inside) == 0
}

// holds looks at all that the calls tell of one list of bytes.
func holds(t *testing.T, b []byte) {
	t.Helper()
	want := plainSum(b)
	if s := Sum(b); s != want || s != librarySum(b) {
		t.Fatalf("Sum of % x: %08x, want %08x", b, s, want)
	}
	sealed := Seal(b)
	if !bytes.Equal(sealed, plainSeal(b)) {
		t.Fatalf("Seal of % x: % x, want % x", b, sealed, plainSeal(b))
	}
	if inside, ok := Open(sealed); !ok || !bytes.Equal(inside, b) {
		t.Fatalf("Open of % x: % x, %t, want % x", sealed, inside, ok, b)
	}
	inside, ok := Open(b)
	if plain, right := plainOpen(b); ok != right || !bytes.Equal(inside, plain) {
		t.Fatalf("Open of % x: % x, %t, want % x, %t", b, inside, ok, plain, right)
	}
}

// some are lists of bytes of several kinds and lengths.
func some(count, longest int) [][]byte {
	src := rand.New(rand.NewSource(6))
	out := [][]byte{nil, {}, []byte("a"), []byte("hello"), []byte("123456789"), {0}, {255}, {0, 0, 0, 0}, {255, 255, 255, 255, 255}}
	for range count {
		b := make([]byte, src.Intn(longest+1))
		src.Read(b)
		out = append(out, b)
	}
	return out
}

func TestSumOfFew(t *testing.T) { // P6.1
	for _, x := range []struct {
		b    string
		want uint32
	}{
		{"", 0}, // the chapter's example
		{"\xff", 0xff}, {"\xff\xff", 0xffff}, {"\xff\xff\xff", 0xffffff}, {"\xff\xff\xff\xff", 0xffffffff},
		// A bit of 0 leaves a 1 in the sum's highest eight, which falls out, and leaves 1edc6f41, moved up once for each bit behind it.
		{"\xfe", 0x1edc6f41 ^ 0xff},
		{"\xfd", 0x1edc6f41<<1 ^ 0xff},
		{"\xfb", 0x1edc6f41<<2 ^ 0xff},
		{"\xf7", 0xf6e37a08 ^ 0xff},
		{"\xef", 0xedc6f410 ^ 0x1edc6f41 ^ 0xff}, // moved up by four: a 1 falls out once more
	} {
		if s := Sum([]byte(x.b)); s != x.want {
			t.Errorf("% x: %08x, want %08x", x.b, s, x.want)
		}
	}
}

func TestSumOfNothing(t *testing.T) { // P6.1
	for i, s := range []uint32{
		Sum(), Sum(nil), Sum([]byte{}), Sum(nil, nil), Sum([]byte{}, nil, []byte{}), Sum([][]byte{}...), Sum([][]byte(nil)...),
		Sum([]byte("abc")[:0]), Sum([]byte("abc")[3:]), Sum(make([][]byte, 1000)...),
	} {
		if s != 0 {
			t.Errorf("%d: %08x", i, s)
		}
	}
}

func TestSumOfEachByte(t *testing.T) { // P6.1
	for x := range 256 {
		for length := 1; length <= 9; length++ {
			holds(t, bytes.Repeat([]byte{byte(x)}, length))
		}
		holds(t, []byte{0, byte(x)})
		holds(t, []byte{byte(x), 0})
		holds(t, []byte{255, byte(x), 255})
	}
}

func TestSumOfAllTwoBytes(t *testing.T) { // P6.1
	seen := map[uint32]bool{}
	for x := range 256 * 256 {
		b := []byte{byte(x / 256), byte(x)}
		s := Sum(b)
		if s != plainSum(b) || s != librarySum(b) || seen[s] {
			t.Fatalf("% x: %08x, want %08x", b, s, plainSum(b))
		}
		seen[s] = true
	}
}

func TestBytesOfNothingAndOfAll(t *testing.T) { // P6.1: bytes of 0 and of 255 count, ahead and behind
	for _, x := range []byte{0, 255} {
		seen := map[uint32]int{}
		for length := range 70 {
			same := bytes.Repeat([]byte{x}, length)
			holds(t, same)
			holds(t, append(slices.Clone(same), 'a'))
			holds(t, append([]byte{'a'}, same...))
			if other, twice := seen[Sum(same)]; twice {
				t.Errorf("%d and %d bytes of %d have one sum", other, length, x)
			}
			seen[Sum(same)] = length
		}
	}
}

func TestAgainstReferences(t *testing.T) { // P6.1
	for _, b := range some(3000, 40) {
		holds(t, b)
	}
	for _, b := range some(40, 3000) {
		holds(t, b)
	}
}

func TestSumOfParts(t *testing.T) { // P6.1: list by list
	for _, b := range some(30, 30) {
		want := plainSum(b)
		for i := range len(b) + 1 {
			for j := i; j <= len(b); j++ {
				for k, s := range []uint32{
					Sum(b[:i], b[i:j], b[j:]),
					Sum(nil, b[:i], nil, []byte{}, b[i:j], []byte{}, b[j:], nil),
					Sum([][]byte{b[:i], b[i:j], b[j:]}...),
				} {
					if s != want {
						t.Fatalf("% x, parted at %d and %d, %d: %08x, want %08x", b, i, j, k, s, want)
					}
				}
			}
		}
		var single [][]byte
		for i := range b {
			single = append(single, nil, b[i:i+1], []byte{})
		}
		if s := Sum(single...); s != want {
			t.Errorf("% x, byte by byte: %08x, want %08x", b, s, want)
		}
	}
	if Sum([]byte("ab"), []byte("cd")) == Sum([]byte("cd"), []byte("ab")) || Sum([]byte("ab")) == Sum([]byte("ba")) {
		t.Error("the order doesn't count")
	}
}

func TestSealOfNothing(t *testing.T) { // P6.1: the chapter's example
	for _, b := range [][]byte{nil, {}, []byte("abc")[:0]} {
		if sealed := Seal(b); !bytes.Equal(sealed, []byte{0, 0, 0, 0}) {
			t.Errorf("% x", sealed)
		}
	}
	if inside, ok := Open([]byte{0, 0, 0, 0}); !ok || len(inside) != 0 {
		t.Errorf("% x, %t", inside, ok)
	}
}

func TestSealHighestFirst(t *testing.T) { // P6.1
	for _, x := range []struct{ b, want string }{
		{"\xff", "\xff\x00\x00\x00\xff"},
		{"\xff\xff", "\xff\xff\x00\x00\xff\xff"},
		{"\xff\xff\xff", "\xff\xff\xff\x00\xff\xff\xff"},
		{"\xfe", "\xfe\x1e\xdc\x6f\xbe"},
	} {
		if sealed := Seal([]byte(x.b)); string(sealed) != x.want {
			t.Errorf("% x: % x, want % x", x.b, sealed, x.want)
		}
		if inside, ok := Open([]byte(x.want)); !ok || string(inside) != x.b {
			t.Errorf("% x: % x, %t", x.want, inside, ok)
		}
	}
}

func TestSealedTwice(t *testing.T) { // P6.1: what was sealed may itself be sealed bytes
	for _, b := range some(20, 20) {
		once := Seal(b)
		twice := Seal(once)
		if inside, ok := Open(twice); !ok || !bytes.Equal(inside, once) || len(twice) != len(b)+8 {
			t.Errorf("% x: % x, %t", b, inside, ok)
		}
		if inside, ok := Open(once); !ok || !bytes.Equal(inside, b) {
			t.Errorf("% x: % x, %t", b, inside, ok)
		}
	}
}

func TestOpenOfFew(t *testing.T) { // P6.1
	for _, b := range [][]byte{nil, {}} {
		if !refused(b) {
			t.Error("of no bytes something is told")
		}
	}
	for x := range 256 {
		for length := 1; length < 4; length++ {
			if b := bytes.Repeat([]byte{byte(x)}, length); !refused(b) {
				t.Errorf("% x is told", b)
			}
		}
	}
	for _, b := range []string{"\x00\x00\x01", "abc", "\x00\xff", "\xff\x00\x00"} {
		if !refused([]byte(b)) {
			t.Errorf("% x is told", b)
		}
	}
	long := []byte{0, 0, 0, 0, 0}
	if !refused(long[:3]) || !refused(long[2:]) { // the room behind isn't looked at
		t.Error("three bytes, with others behind or ahead, are told")
	}
}

func TestOpenOfFour(t *testing.T) { // P6.1: of four bytes those of 0 alone are sealed
	for i := range 4 {
		for x := 1; x < 256; x++ {
			b := make([]byte, 4)
			b[i] = byte(x)
			if !refused(b) {
				t.Errorf("% x is told", b)
			}
		}
	}
	for _, b := range []string{"\xff\xff\xff\xff", "abcd", "\x1e\xdc\x6f\x41", "\xe1\x23\x90\xbe", "\x00\x00\x00\x01", "\x80\x00\x00\x00"} {
		if !refused([]byte(b)) {
			t.Errorf("% x is told", b)
		}
	}
}

func TestOpenOfOtherSeals(t *testing.T) { // P6.1: a seal that another one could have made
	for _, b := range some(50, 20) {
		if len(b) == 0 {
			continue
		}
		sum := plainSum(b)
		for i, other := range []uint32{^sum, bits.ReverseBytes32(sum), bits.Reverse32(sum), sum + 1, sum - 1, crc32.ChecksumIEEE(b), 0, 0xffffffff} {
			if other == sum {
				continue
			}
			if wrong := append(slices.Clone(b), fourBytes(other)...); !refused(wrong) {
				t.Errorf("% x, %d, is told", wrong, i)
			}
		}
		if ahead := append(fourBytes(sum), b...); !refused(ahead) && !bytes.Equal(ahead, plainSeal(ahead[:len(b)])) {
			t.Errorf("% x, with the seal ahead, is told", ahead)
		}
	}
}

func TestOpenOfMore(t *testing.T) { // P6.1: sealed bytes with others behind
	for _, b := range some(30, 20) {
		sealed := Seal(b)
		for _, x := range []byte{0, 1, 'a', 0x80, 255} {
			for length := 1; length <= 9; length++ {
				more := append(slices.Clone(sealed), bytes.Repeat([]byte{x}, length)...)
				want, right := plainOpen(more)
				if inside, ok := Open(more); ok != right || !bytes.Equal(inside, want) {
					t.Errorf("% x: % x, %t", more, inside, ok)
				}
			}
		}
		if more := append(slices.Clone(sealed), sealed...); len(b) > 0 && !refused(more) {
			t.Errorf("% x is told", more)
		}
	}
	sealed := Seal([]byte("hello"))
	for x := range 256 {
		if !refused(append(slices.Clone(sealed), byte(x))) || !refused(append([]byte{byte(x)}, sealed...)) {
			t.Errorf("with %d behind or ahead hello is told", x)
		}
	}
}

func TestOpenOfLess(t *testing.T) { // P6.1: sealed bytes with some cut off
	for _, b := range []string{"hello", "a", "copyist", "many write at once", "\xff\xff\xff\xff", "\x01\x00\x00\x00\x00"} {
		sealed := Seal([]byte(b))
		for i := range len(sealed) + 1 {
			for j := i; j <= len(sealed); j++ {
				part := sealed[i:j]
				want, right := plainOpen(part)
				if inside, ok := Open(part); ok != right || !bytes.Equal(inside, want) {
					t.Errorf("% x of % x: % x, %t", part, sealed, inside, ok)
				}
			}
		}
	}
	sealed := Seal([]byte("hello"))
	for i := range len(sealed) {
		if !refused(sealed[:i]) {
			t.Errorf("the first %d bytes of hello, sealed, are told", i)
		}
		if i > 0 && !refused(sealed[i:]) {
			t.Errorf("hello, sealed, without its first %d bytes is told", i)
		}
	}
}

func TestMemoryHandedIn(t *testing.T) { // what is handed in is not changed, nor is its spare room
	room := []byte("hello, and others behind")
	was := string(room)
	Sum(room[:5], room[3:9])
	Seal(room[:5])
	Open(room[:5])
	Open(room)
	if string(room) != was {
		t.Errorf("%q", room)
	}
	sealed := append(Seal([]byte("hello")), "behind"...)
	was = string(sealed)
	if inside, ok := Open(sealed[:9]); !ok || string(inside) != "hello" {
		t.Errorf("%q, %t", inside, ok)
	}
	Open(sealed[:8])
	Open(sealed[:10])
	if string(sealed) != was {
		t.Errorf("% x", sealed)
	}
	lists := [][]byte{[]byte("a"), nil, []byte("b")}
	Sum(lists...)
	if len(lists) != 3 || string(lists[0]) != "a" || lists[1] != nil || string(lists[2]) != "b" {
		t.Errorf("%q", lists)
	}
}

func TestMemoryTold(t *testing.T) { // what is told is new memory
	b := []byte("hello")
	one, two := Seal(b), Seal(b)
	want := string(one)
	clear(one)
	_ = append(one[:5], "xyz"...)
	if string(b) != "hello" || string(two) != want {
		t.Errorf("%q, % x", b, two)
	}
	b[0] = 'j' // nothing of it was kept
	if string(two) != want {
		t.Errorf("% x", two)
	}
	first, _ := Open(two)
	second, _ := Open(two)
	clear(first)
	_ = append(first, 9, 9, 9, 9)
	if string(two) != want || string(second) != "hello" {
		t.Errorf("% x, %q", two, second)
	}
	clear(two)
	if string(second) != "hello" {
		t.Errorf("%q", second)
	}
}

func TestAskedAgain(t *testing.T) { // nothing is kept from call to call
	for _, b := range some(20, 20) {
		sum, sealed := Sum(b), Seal(b)
		Sum([]byte("another one"))
		Open([]byte("wrong"))
		Seal([]byte{1})
		if Sum(b) != sum || !bytes.Equal(Seal(b), sealed) {
			t.Errorf("% x", b)
		}
	}
}

// turned are bytes with a run of bits turned from a place on, by the lowest length bits of a pattern, the highest of them first.
func turned(b []byte, at, length int, pattern uint32) []byte {
	out := slices.Clone(b)
	for i := range length {
		if pattern>>(length-1-i)&1 == 1 {
			out[(at+i)/8] ^= 0x80 >> ((at + i) % 8)
		}
	}
	return out
}

// patterns are those of a run with its first and its last bit turned: all of them, if it is short, else some of those between.
func patterns(length int, src *rand.Rand) []uint32 {
	if length == 1 {
		return []uint32{1}
	}
	ends := uint32(1)<<(length-1) | 1
	var out []uint32
	if length <= 13 {
		for between := range uint32(1) << (length - 2) {
			out = append(out, ends|between<<1)
		}
		return out
	}
	inner := uint32(1)<<(length-1) - 1
	for _, between := range []uint32{0, 0xffffffff, 0x55555555, 0xaaaaaaaa, 0x1edc6f41, 0x1edc6f41 << 1, 0x1edc6f41 >> (32 - length), 0xf0f0f0f0, 0x00ff00ff} {
		out = append(out, ends|between&inner)
	}
	for range 300 {
		out = append(out, ends|src.Uint32()&inner)
	}
	return out
}

func TestTurnedRunsAreRefused(t *testing.T) { // P6.2
	src := rand.New(rand.NewSource(62))
	for _, b := range []string{"", "\x00", "hello", "\xff\xff\xff\xff\x00\x00"} {
		sealed := Seal([]byte(b))
		for length := 1; length <= 32; length++ {
			all := patterns(length, src)
			for at := range 8*len(sealed) - length + 1 {
				for _, p := range all {
					if spoilt := turned(sealed, at, length, p); !refused(spoilt) {
						t.Fatalf("% x with %0*b turned from bit %d on is told", sealed, length, p, at)
					}
				}
			}
		}
	}
}

// gap is how far the seal of bytes is from the one that Open asks for, by the program's own Sum.
func gap(b []byte) uint32 {
	inside, seal := b[:len(b)-4], b[len(b)-4:]
	return Sum(inside) ^ (uint32(seal[0])<<24 | uint32(seal[1])<<16 | uint32(seal[2])<<8 | uint32(seal[3]))
}

// apart tells whether no choice of some of these numbers, but for none, has an exclusive or of 0.
func apart(numbers []uint32) bool {
	var lead [32]uint32 // by their highest bits
	for _, n := range numbers {
		for n != 0 {
			top := bits.Len32(n) - 1
			if lead[top] == 0 {
				lead[top] = n
				break
			}
			n ^= lead[top]
		}
		if n == 0 {
			return false
		}
	}
	return true
}

// Of runs of up to 32 bits there are too many to be turned one by one. But what turned bits make of the gap is the exclusive or of what each one makes of it alone; so if those of 32 bits one behind the other are apart, every choice of them leaves a gap.
func TestEveryTurnedRunLeavesAGap(t *testing.T) { // P6.2
	src := rand.New(rand.NewSource(63))
	for _, b := range some(20, 60) {
		sealed := Seal(b)
		if gap(sealed) != 0 {
			t.Fatalf("% x has a gap", sealed)
		}
		var single []uint32
		for at := range 8 * len(sealed) {
			single = append(single, gap(turned(sealed, at, 1, 1)))
		}
		for from := range len(single) - 31 {
			if !apart(single[from : from+32]) {
				t.Fatalf("of % x a run within 32 bits from bit %d on leaves no gap", sealed, from)
			}
		}
		for range 300 { // any bits at once, and Open tells by the gap alone
			spoilt := slices.Clone(sealed)
			var want uint32
			for at := range single {
				if src.Intn(3) == 0 {
					spoilt = turned(spoilt, at, 1, 1)
					want ^= single[at]
				}
			}
			if _, ok := Open(spoilt); gap(spoilt) != want || ok != (want == 0) {
				t.Fatalf("% x, spoilt as % x: %08x, want %08x, %t", sealed, spoilt, gap(spoilt), want, ok)
			}
		}
	}
}

func TestTurnedInLongBytes(t *testing.T) { // P6.2: how far from the seal doesn't count
	src := rand.New(rand.NewSource(64))
	b := make([]byte, 5000)
	src.Read(b)
	sealed := Seal(b)
	for range 2000 {
		length := 1 + src.Intn(32)
		at := src.Intn(8*len(sealed) - length + 1)
		p := uint32(1)<<(length-1) | 1 | src.Uint32()&(uint32(1)<<(length-1)-1)
		if !refused(turned(sealed, at, length, p)) {
			t.Fatalf("%0*b turned from bit %d on is told", length, p, at)
		}
	}
}

func TestRunOf33MayBeTold(t *testing.T) { // P6.2's bound is sharp: the chapter's number itself, with its bit of 33, leaves no gap
	sealed := Seal([]byte("hello"))
	for at := range 8*len(sealed) - 32 {
		spoilt := turned(turned(sealed, at, 1, 1), at+1, 32, 0x1edc6f41)
		inside, ok := Open(spoilt)
		if !ok || !bytes.Equal(inside, spoilt[:5]) {
			t.Errorf("from bit %d on: % x, %t", at, inside, ok)
		}
	}
}

func TestEndsAtAnyArguments(t *testing.T) { // P1
	long := bytes.Repeat([]byte{0, 255, 'a', 0x80}, 1<<18)
	if Sum(long) != librarySum(long) || Sum(long[:1000], long[1000:]) != librarySum(long) {
		t.Error("Sum of 2^20 bytes")
	}
	if inside, ok := Open(Seal(long)); !ok || !bytes.Equal(inside, long) {
		t.Error("Open of 2^20 bytes, sealed")
	}
	if !refused(long) {
		t.Error("2^20 bytes that weren't sealed are told")
	}
	many := slices.Repeat([][]byte{nil, {7}, {}}, 1<<16)
	if Sum(many...) != librarySum(bytes.Repeat([]byte{7}, 1<<16)) {
		t.Error("Sum of many lists")
	}
	for length := range 12 { // any few bytes
		for _, x := range []byte{0, 1, 127, 128, 255} {
			holds(t, bytes.Repeat([]byte{x}, length))
		}
	}
}
