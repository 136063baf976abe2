package clock

import (
	"math"
	"math/big"
	"slices"
	"testing"
)

const last = 1 << 50

// numbers are those that a call may be given: both ends of what may be, and what stands beside them.
func numbers() []int64 {
	return []int64{
		math.MinInt64, math.MinInt64 + 1, -last - 1, -last, -1 << 32, -5, -1, 0, 1, 2, 5, 1 << 31, 1 << 32,
		last/2 - 1, last / 2, last/2 + 1, last - 2, last - 1, last, last + 1, 1 << 62, math.MaxInt64 - last, math.MaxInt64 - 1, math.MaxInt64,
	}
}

// later is the time that is n behind a time, by numbers that have no end.
func later(now, n int64) int64 {
	sum := big.NewInt(now)
	if n > 0 {
		sum.Add(sum, big.NewInt(n))
	}
	if sum.Cmp(big.NewInt(last)) > 0 {
		return last
	}
	return sum.Int64()
}

// same holds all that a clock tells against a time.
func same(t *testing.T, c *Clock, now int64) {
	t.Helper()
	for _, n := range slices.Concat(numbers(), []int64{now - 1, now, now + 1, last - now}) {
		if got, want := c.After(n), later(now, n); got != want {
			t.Fatalf("at %d: After(%d) = %d, not %d", now, n, got, want)
		}
		if got, want := c.Past(n), n == now || n < now; got != want {
			t.Fatalf("at %d: Past(%d) = %v", now, n, got)
		}
	}
	if got := c.Now(); got != now {
		t.Fatalf("it is %d, not %d", got, now)
	}
}

// P13.1: the zero Clock, and one tick of it.
func TestByHand(t *testing.T) {
	var c Clock
	same(t, &c, 0)
	for _, x := range [][2]int64{{5, 5}, {-3, 5}, {0, 5}, {1, 6}, {math.MinInt64, 6}, {last - 7, last - 1}, {1, last}, {1, last}, {-1, last}, {0, last}} {
		if got := c.Tick(x[0]); got != x[1] {
			t.Errorf("Tick(%d) = %d, not %d", x[0], got, x[1])
		}
		same(t, &c, x[1])
	}
}

// P13.1, P13.2: every order of three ticks.
func TestEveryOrder(t *testing.T) {
	list := numbers()
	for _, x := range list {
		for _, y := range list {
			for _, z := range list {
				var c Clock
				now := int64(0)
				for _, n := range []int64{x, y, z} {
					now = later(now, n)
					if got := c.Tick(n); got != now {
						t.Fatalf("ticks of %d, %d, %d: %d, not %d, at that of %d", x, y, z, got, now, n)
					}
				}
				same(t, &c, now)
			}
		}
	}
}

// P13.2: time goes neither back nor beyond its end, however long it goes on.
func TestLongRuns(t *testing.T) {
	draw := uint64(7)
	for run := range 200 {
		var c Clock
		for range 300 {
			draw = draw*6364136223846793005 + 1442695040888963407
			// Later runs take greater steps, so that their clocks come to the end.
			n := int64(draw) >> (63 - run%64)
			was := c.Now()
			now := c.Tick(n)
			if now < was || now > last || now != c.Now() || now != later(was, n) {
				t.Fatalf("Tick(%d) at %d: %d", n, was, now)
			}
		}
	}
}

// P13.1: a clock at its end stays there.
func TestEnd(t *testing.T) {
	for _, first := range []int64{last, last + 1, math.MaxInt64} {
		var c Clock
		for _, n := range slices.Concat([]int64{first}, numbers()) {
			if got := c.Tick(n); got != last {
				t.Errorf("Tick(%d) at the end: %d", n, got)
			}
			same(t, &c, last)
		}
	}
}

// P13.1: what is told of the time turns nothing.
func TestTellingTurnsNothing(t *testing.T) {
	for _, n := range numbers() {
		var c Clock
		c.Tick(9)
		c.After(n)
		c.Past(n)
		c.Now()
		same(t, &c, 9)
	}
}

// P13.1: a clock that is copied goes on by itself, from the time that it had.
func TestCopied(t *testing.T) {
	var a Clock
	a.Tick(5)
	b := a
	same(t, &b, 5)
	if a.Tick(2) != 7 || b.Now() != 5 || b.Tick(10) != 15 || a.Now() != 7 {
		t.Errorf("%d and %d", a.Now(), b.Now())
	}
	c := b
	b.Tick(math.MaxInt64)
	same(t, &a, 7)
	same(t, &b, last)
	same(t, &c, 15)
	d := b
	same(t, &d, last)
	b = Clock{}
	same(t, &b, 0)
	same(t, &d, last)
}

// leastOf is what Least must be: the first one of those that count, in their order.
func leastOf(times []int64) int64 {
	var list []int64
	for _, x := range times {
		switch {
		case x < 0:
			list = append(list, 1)
		case x > 0:
			list = append(list, x)
		}
	}
	slices.Sort(list)
	if len(list) == 0 {
		return 0
	}
	return list[0]
}

// P13.1: the least of none, of zeroes alone, of times below 0, and of those that aren't held.
func TestLeastByHand(t *testing.T) {
	for _, c := range []struct {
		times []int64
		want  int64
	}{
		{nil, 0}, {[]int64{}, 0}, {[]int64{0}, 0}, {[]int64{0, 0, 0}, 0},
		{[]int64{7}, 7}, {[]int64{0, 7}, 7}, {[]int64{7, 0}, 7}, {[]int64{0, 9, 4}, 4}, {[]int64{4, 9, 0, 4}, 4},
		{[]int64{-1}, 1}, {[]int64{math.MinInt64}, 1}, {[]int64{-5, 0}, 1}, {[]int64{0, -5}, 1}, {[]int64{9, -5, 4}, 1}, {[]int64{1, -5}, 1}, {[]int64{2, -1}, 1},
		{[]int64{math.MaxInt64}, math.MaxInt64}, {[]int64{math.MaxInt64, last + 1}, last + 1}, {[]int64{0, last, math.MaxInt64}, last},
	} {
		if got := Least(c.times...); got != c.want {
			t.Errorf("Least(%v) = %d, not %d", c.times, got, c.want)
		}
	}
	if Least(3, 2, 8) != 2 || Least() != 0 {
		t.Error("one by one")
	}
}

// P13.1: the least of all lists of up to three numbers, and of long ones; the list isn't turned, nor what stands behind it.
func TestLeast(t *testing.T) {
	var lists [][]int64
	for _, x := range numbers() {
		lists = append(lists, []int64{x})
		for _, y := range numbers() {
			lists = append(lists, []int64{x, y})
			for _, z := range numbers() {
				lists = append(lists, []int64{x, y, z})
			}
		}
	}
	for place := range 1000 {
		long := make([]int64, 1000)
		long[place] = int64(place)
		long[999-place] = int64(1000 - place)
		lists = append(lists, long, slices.Repeat([]int64{int64(place) - 500}, place))
	}
	for _, list := range lists {
		was := slices.Concat(list, []int64{-7})
		given := slices.Clone(was)
		if got, want := Least(given[:len(list)]...), leastOf(list); got != want {
			t.Fatalf("Least(%v) = %d, not %d", list, got, want)
		}
		if !slices.Equal(given, was) {
			t.Fatalf("%v is turned to %v", was, given)
		}
	}
}
