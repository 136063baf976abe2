package fit

import (
	"fmt"
	"math"
	"slices"
	"testing"
)

// samples are numbers with bits at the ends, in the middle, and across halves.
func samples() []uint64 {
	list := []uint64{0, 1, 2, 3, 0x55, 0x7F, 0x80, 0xFF, 0x100, 0x8000, 0xFFFF, 0x7FFFFFFF, 0x80000000, 0xFFFFFFFF,
		0x100000000, 0x123456789ABCDEF0, 0x5555555555555555, 0xAAAAAAAAAAAAAAAA, 1<<63 - 1, 1 << 63, 1<<63 | 1, math.MaxUint64 - 1, math.MaxUint64}
	next := uint64(1)
	for range 200 {
		next = next*6364136223846793005 + 1442695040888963407
		list = append(list, next)
	}
	return list
}

// counts are numbers of bits or places, in their range and far beyond it.
func counts() []int {
	list := []int{math.MinInt, math.MinInt + 1, -1 << 32, -1000, math.MaxInt - 1, math.MaxInt, 1 << 32, 1000}
	for n := -130; n <= 130; n++ {
		list = append(list, n)
	}
	return list
}

func checkTo[T int8 | int16 | int32 | uint8 | uint16 | uint32](t *testing.T, least, greatest int64) {
	t.Helper()
	near := []int64{0, 1, -1, math.MinInt64, math.MinInt64 + 1, math.MaxInt64, math.MaxInt64 - 1}
	for _, middle := range []int64{least, greatest, 1 << 7, 1 << 8, 1 << 15, 1 << 16, 1 << 31, 1 << 32, -1 << 7, -1 << 8, -1 << 15, -1 << 16, -1 << 31, -1 << 32, 1 << 33, 1 << 40, -1 << 40} {
		near = append(near, middle-2, middle-1, middle, middle+1, middle+2)
	}
	for _, n := range near {
		got, ok := To[T](n)
		want := n >= least && n <= greatest
		if ok != want || want && int64(got) != n || !want && got != 0 {
			t.Errorf("To[%T](%d) = %d, %v; of %d to %d", got, n, got, ok, least, greatest)
		}
	}
}

// P1.1, P1.2: the ends of each type, and what lies beside them.
func TestToAtEndsOfTypes(t *testing.T) {
	checkTo[int8](t, math.MinInt8, math.MaxInt8)
	checkTo[int16](t, math.MinInt16, math.MaxInt16)
	checkTo[int32](t, math.MinInt32, math.MaxInt32)
	checkTo[uint8](t, 0, math.MaxUint8)
	checkTo[uint16](t, 0, math.MaxUint16)
	checkTo[uint32](t, 0, math.MaxUint32)
}

// P1.2: each number of the small types is itself, back.
func TestToOfAllSmallNumbers(t *testing.T) {
	for n := int64(-70000); n <= 70000; n++ {
		a, aok := To[int8](n)
		b, bok := To[uint8](n)
		c, cok := To[int16](n)
		d, dok := To[uint16](n)
		if aok != (n >= -128 && n <= 127) || bok != (n >= 0 && n <= 255) || cok != (n >= -32768 && n <= 32767) || dok != (n >= 0 && n <= 65535) {
			t.Fatalf("%d: %v %v %v %v", n, aok, bok, cok, dok)
		}
		if aok && int64(a) != n || bok && int64(b) != n || cok && int64(c) != n || dok && int64(d) != n {
			t.Fatalf("%d: %d %d %d %d", n, a, b, c, d)
		}
		if !aok && a != 0 || !bok && b != 0 || !cok && c != 0 || !dok && d != 0 {
			t.Fatalf("%d fits not, yet: %d %d %d %d", n, a, b, c, d)
		}
	}
}

// slowLow and slowSign go bit by bit, as the words say.
func slowLow(n uint64, count int) uint64 {
	var low uint64
	for place := 0; place < count && place < 64; place++ {
		low |= n & (1 << place)
	}
	return low
}

func slowSign(n uint64, count int) int64 {
	if count <= 0 {
		return 0
	}
	count = min(count, 64)
	// The highest bit counts below 0, all others above it.
	return int64(slowLow(n, count-1)) - int64(n&(1<<(count-1)))
}

// P1.1: all numbers of bits, and those below 0 and above 64.
func TestLowAndSign(t *testing.T) {
	for _, n := range samples() {
		for _, count := range counts() {
			if got, want := Low(n, count), slowLow(n, count); got != want {
				t.Fatalf("Low(%#x, %d) = %#x, not %#x", n, count, got, want)
			}
			if got, want := Sign(n, count), slowSign(n, count); got != want {
				t.Fatalf("Sign(%#x, %d) = %d, not %d", n, count, got, want)
			}
		}
	}
}

func TestLowAndSignByHand(t *testing.T) {
	for _, c := range []struct {
		n     uint64
		count int
		low   uint64
		sign  int64
	}{
		{255, 8, 255, -1},
		{255, 9, 255, 255},
		{255, 7, 127, -1},
		{128, 8, 128, -128},
		{127, 8, 127, 127},
		{0x1234, 8, 0x34, 0x34},
		{1, 1, 1, -1},
		{2, 1, 0, 0},
		{math.MaxUint64, 0, 0, 0},
		{math.MaxUint64, -1, 0, 0},
		{math.MaxUint64, math.MinInt, 0, 0},
		{math.MaxUint64, 63, math.MaxInt64, -1},
		{math.MaxUint64, 64, math.MaxUint64, -1},
		{math.MaxUint64, 65, math.MaxUint64, -1},
		{math.MaxUint64, math.MaxInt, math.MaxUint64, -1},
		{1 << 63, 64, 1 << 63, math.MinInt64},
		{1 << 63, 63, 0, 0},
		{1 << 62, 63, 1 << 62, -1 << 62},
	} {
		if low, sign := Low(c.n, c.count), Sign(c.n, c.count); low != c.low || sign != c.sign {
			t.Errorf("%+v: %#x %d", c, low, sign)
		}
	}
}

// P1.2: halves that are joined are the number.
func TestHalvesAndJoin(t *testing.T) {
	for _, n := range samples() {
		high, low := Halves(n)
		if uint64(high) != n/(1<<32) || uint64(low) != n%(1<<32) {
			t.Errorf("Halves(%#x) = %#x, %#x", n, high, low)
		}
		if got := Join(high, low); got != n {
			t.Errorf("Join(%#x, %#x) = %#x, not %#x", high, low, got, n)
		}
	}
	for _, c := range [][2]uint32{{0, 0}, {1, 0}, {0, 1}, {math.MaxUint32, 0}, {0, math.MaxUint32}, {math.MaxUint32, math.MaxUint32}, {0x12345678, 0x9ABCDEF0}} {
		if high, low := Halves(Join(c[0], c[1])); high != c[0] || low != c[1] {
			t.Errorf("%#x: %#x %#x", c, high, low)
		}
	}
	if got := Join(1, 2); got != 1<<32+2 {
		t.Errorf("Join(1, 2) = %#x", got)
	}
}

// slowRot moves each bit by itself.
func slowRot(n uint64, by int) uint64 {
	var turned uint64
	for place := range 64 {
		if n&(1<<place) != 0 {
			turned |= 1 << (((place+by%64)%64 + 64) % 64)
		}
	}
	return turned
}

// P1.1: turns to both sides, by none, once around, and by more than that.
func TestRot(t *testing.T) {
	for _, n := range samples() {
		for _, by := range counts() {
			if got, want := Rot(n, by), slowRot(n, by); got != want {
				t.Fatalf("Rot(%#x, %d) = %#x, not %#x", n, by, got, want)
			}
		}
	}
	for _, c := range []struct {
		n    uint64
		by   int
		want uint64
	}{{1, 1, 2}, {1 << 63, 1, 1}, {1, -1, 1 << 63}, {6, 0, 6}, {6, 64, 6}, {6, -64, 6}, {6, 65, 12}, {6, -65, 3}, {6, 128, 6}, {1, math.MinInt, 1}, {1, math.MaxInt, 1 << 63}} {
		if got := Rot(c.n, c.by); got != c.want {
			t.Errorf("Rot(%#x, %d) = %#x, not %#x", c.n, c.by, got, c.want)
		}
	}
}

func slowBits(n uint64) []int {
	var places []int
	for place := range 64 {
		if n>>place%2 == 1 {
			places = append(places, place)
		}
	}
	return places
}

// P1.1: the places rise, can be gone through again, and lead back.
func TestBits(t *testing.T) {
	for _, n := range samples() {
		places := Bits(n)
		want := slowBits(n)
		for again := range 3 {
			if got := slices.Collect(places); !slices.Equal(got, want) {
				t.Fatalf("Bits(%#x), time %d: %v, not %v", n, again, got, want)
			}
		}
		if got := Of(slices.Collect(places)); got != n {
			t.Errorf("Of(Bits(%#x)) = %#x", n, got)
		}
	}
	if got := slices.Collect(Bits(1<<63 | 33)); !slices.Equal(got, []int{0, 5, 63}) {
		t.Errorf("%v", got)
	}
	if got := slices.Collect(Bits(0)); len(got) != 0 {
		t.Errorf("0 has no bits: %v", got)
	}
}

// P1.1: whoever stops is handed nothing more, and begins anew then.
func TestBitsStopped(t *testing.T) {
	places := Bits(math.MaxUint64)
	for stop := 1; stop <= 64; stop++ {
		var got []int
		places(func(place int) bool {
			got = append(got, place)
			return len(got) < stop
		})
		if len(got) != stop || got[0] != 0 || got[stop-1] != stop-1 {
			t.Errorf("stopped at %d: %v", stop, got)
		}
	}
}

// P1.1: two that go through the same places don't disturb each other.
func TestBitsNested(t *testing.T) {
	places := Bits(7)
	var pairs []string
	for a := range places {
		for b := range places {
			pairs = append(pairs, fmt.Sprint(a, b))
		}
	}
	if want := []string{"0 0", "0 1", "0 2", "1 0", "1 1", "1 2", "2 0", "2 1", "2 2"}; !slices.Equal(pairs, want) {
		t.Errorf("%v", pairs)
	}
}

// P1.1: places in any order, more than once, and some that are none.
func TestOf(t *testing.T) {
	for _, c := range []struct {
		list []int
		want uint64
	}{
		{nil, 0},
		{[]int{}, 0},
		{[]int{0}, 1},
		{[]int{63}, 1 << 63},
		{[]int{5, 0}, 33},
		{[]int{5, 5}, 32},
		{[]int{5, 0, 5, 5}, 33},
		{[]int{-1}, 0},
		{[]int{64}, 0},
		{[]int{-64, -63, 65, 127, 128}, 0},
		{[]int{math.MinInt, math.MaxInt, 1 << 32, -1 << 32, 1<<32 + 1}, 0},
		{[]int{64, 63, -1, 0, math.MaxInt}, 1<<63 | 1},
	} {
		before := slices.Clone(c.list)
		if got := Of(c.list); got != c.want {
			t.Errorf("Of(%v) = %#x, not %#x", c.list, got, c.want)
		}
		if !slices.Equal(c.list, before) {
			t.Errorf("Of turned %v to %v", before, c.list)
		}
	}
	for place := range 64 {
		if got := Of([]int{place}); got != 1<<place {
			t.Errorf("Of(%d) = %#x", place, got)
		}
	}
}
