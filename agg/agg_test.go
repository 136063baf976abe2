package agg

import (
	"math"
	"math/big"
	"slices"
	"testing"

	"clerestory/api"
)

const (
	least    = math.MinInt64
	greatest = math.MaxInt64
)

// edges are values at which numbers go round, or turn their sign.
var edges = []int64{least, least + 1, -1 << 62, -1 << 32, -7, -2, -1, 0, 1, 2, 7, 1 << 20, 1 << 32, 1 << 62, greatest - 1, greatest}

// none are Aggs that count as nothing's, with rubbish in their fields.
func none() []api.Agg {
	var list []api.Agg
	for _, count := range []int{0, -1, -2, math.MinInt} {
		list = append(list, api.Agg{Count: count})
		for _, v := range []int64{least, -9, 9, greatest} {
			list = append(list, api.Agg{Count: count, Sum: v}, api.Agg{Count: count, Min: v}, api.Agg{Count: count, Max: v}, api.Agg{Count: count, Sum: v, Min: v, Max: v})
		}
	}
	return list
}

// drawer draws values by a rule, the same ones each time.
type drawer uint64

func (d *drawer) below(n int) int {
	*d = *d*6364136223846793005 + 1442695040888963407
	return int(uint64(*d) >> 33 % uint64(n))
}

// values is up to eight values, half of them from the edges.
func (d *drawer) values() []int64 {
	var list []int64
	for range d.below(9) {
		if d.below(2) == 0 {
			list = append(list, edges[d.below(len(edges))])
		} else {
			list = append(list, int64(d.below(201)-100))
		}
	}
	return list
}

// roundSum is the sum as it is beyond all bounds, and then the number of int64 that its lowest 64 bits are.
func roundSum(values []int64) int64 {
	sum := new(big.Int)
	for _, v := range values {
		sum.Add(sum, big.NewInt(v))
	}
	bits := new(big.Int).Mod(sum, new(big.Int).Lsh(big.NewInt(1), 64))
	return int64(bits.Uint64())
}

// slowOf is what Of must tell.
func slowOf(values []int64) api.Agg {
	if len(values) == 0 {
		return api.Agg{}
	}
	return api.Agg{Count: len(values), Sum: roundSum(values), Min: slices.Min(values), Max: slices.Max(values)}
}

// P8.1: of one value, from the least to the greatest.
func TestOne(t *testing.T) {
	for _, v := range edges {
		want := api.Agg{Count: 1, Sum: v, Min: v, Max: v}
		if One(v) != want || Of([]int64{v}) != want {
			t.Errorf("of %d: %+v, %+v", v, One(v), Of([]int64{v}))
		}
	}
}

// P8.1: of nothing, one, some and many values.
func TestOf(t *testing.T) {
	for _, c := range []struct {
		values []int64
		want   api.Agg
	}{
		{nil, api.Agg{}},
		{[]int64{}, api.Agg{}},
		{[]int64{0}, api.Agg{Count: 1}},
		{[]int64{3, -4}, api.Agg{Count: 2, Sum: -1, Min: -4, Max: 3}},
		// Neither the least nor the greatest one is 0 where all values lie on one side of it.
		{[]int64{5, 3, 9}, api.Agg{Count: 3, Sum: 17, Min: 3, Max: 9}},
		{[]int64{-5, -3, -9}, api.Agg{Count: 3, Sum: -17, Min: -9, Max: -3}},
		{[]int64{7, 7, 7}, api.Agg{Count: 3, Sum: 21, Min: 7, Max: 7}},
		{[]int64{greatest, 1}, api.Agg{Count: 2, Sum: least, Min: 1, Max: greatest}},
		{[]int64{least, -1}, api.Agg{Count: 2, Sum: greatest, Min: least, Max: -1}},
		{[]int64{least, least}, api.Agg{Count: 2, Sum: 0, Min: least, Max: least}},
		{[]int64{greatest, greatest, 2}, api.Agg{Count: 3, Sum: 0, Min: 2, Max: greatest}},
		{[]int64{greatest, least}, api.Agg{Count: 2, Sum: -1, Min: least, Max: greatest}},
	} {
		if got := Of(c.values); got != c.want || slowOf(c.values) != c.want {
			t.Errorf("Of(%d) = %+v, not %+v", c.values, got, c.want)
		}
	}
	many := make([]int64, 300000)
	for i := range many {
		many[i] = int64(i%1000) - 499
	}
	if got := Of(many); got != (api.Agg{Count: 300000, Sum: 150000, Min: -499, Max: 500}) {
		t.Errorf("of many: %+v", got)
	}
}

// P8.1: values that are drawn, sums that go round among them.
func TestDrawnValues(t *testing.T) {
	d := drawer(3)
	for range 50000 {
		values := d.values()
		if got, want := Of(values), slowOf(values); got != want {
			t.Fatalf("Of(%d) = %+v, not %+v", values, got, want)
		}
	}
}

// P8.1: two together.
func TestMerge(t *testing.T) {
	for _, c := range []struct{ a, b, want api.Agg }{
		{api.Agg{Count: 2, Sum: 5, Min: 1, Max: 4}, api.Agg{Count: 3, Sum: 9, Min: 2, Max: 5}, api.Agg{Count: 5, Sum: 14, Min: 1, Max: 5}},
		{api.Agg{Count: 2, Sum: 5, Min: 1, Max: 4}, api.Agg{Count: 1, Sum: 2, Min: 2, Max: 2}, api.Agg{Count: 3, Sum: 7, Min: 1, Max: 4}},
		{api.Agg{Count: 1, Sum: greatest, Min: greatest, Max: greatest}, api.Agg{Count: 1, Sum: greatest, Min: greatest, Max: greatest}, api.Agg{Count: 2, Sum: -2, Min: greatest, Max: greatest}},
		{api.Agg{Count: 1, Sum: least, Min: least, Max: least}, api.Agg{Count: 1, Sum: greatest, Min: greatest, Max: greatest}, api.Agg{Count: 2, Sum: -1, Min: least, Max: greatest}},
		// Fields that no values have are added and held against each other all the same.
		{api.Agg{Count: 1, Sum: 50, Min: 9, Max: 2}, api.Agg{Count: 1, Sum: -70, Min: 8, Max: 1}, api.Agg{Count: 2, Sum: -20, Min: 8, Max: 2}},
		{api.Agg{Count: math.MaxInt - 1}, api.Agg{Count: 1}, api.Agg{Count: math.MaxInt}},
		{api.Agg{Count: math.MaxInt, Sum: 1, Min: 2, Max: 3}, api.Agg{}, api.Agg{Count: math.MaxInt, Sum: 1, Min: 2, Max: 3}},
	} {
		if got := Merge(c.a, c.b); got != c.want {
			t.Errorf("Merge(%+v, %+v) = %+v, not %+v", c.a, c.b, got, c.want)
		}
		if got := Merge(c.b, c.a); got != c.want {
			t.Errorf("Merge(%+v, %+v) = %+v, not %+v", c.b, c.a, got, c.want)
		}
	}
}

// P8.1: one whose Count is below 1 counts as nothing's, whatever else it has, in either place and in both.
func TestMergeWithNothing(t *testing.T) {
	some := []api.Agg{One(0), One(5), One(-5), One(least), One(greatest), Of([]int64{3, -4}), {Count: 1, Sum: 8, Min: 7, Max: -7}}
	for _, a := range none() {
		for _, b := range some {
			if got := Merge(a, b); got != b {
				t.Errorf("Merge(%+v, %+v) = %+v", a, b, got)
			}
			if got := Merge(b, a); got != b {
				t.Errorf("Merge(%+v, %+v) = %+v", b, a, got)
			}
		}
		for _, b := range none() {
			if got := Merge(a, b); got != (api.Agg{}) {
				t.Errorf("Merge(%+v, %+v) = %+v", a, b, got)
			}
		}
	}
}

// slowAvg is the greatest whole number that, times the count, isn't above the sum.
func slowAvg(sum int64, count int) int64 {
	// Of a divisor above 0, Div rounds down.
	return new(big.Int).Div(big.NewInt(sum), big.NewInt(int64(count))).Int64()
}

// P8.1: the average is rounded down, on both sides of 0 and at both ends.
func TestAvg(t *testing.T) {
	for _, c := range []struct {
		sum   int64
		count int
		want  int64
	}{{-1, 2, -1}, {1, 2, 0}, {0, 2, 0}, {-2, 2, -1}, {-3, 2, -2}, {3, 2, 1}, {-1, math.MaxInt, -1}, {1, math.MaxInt, 0}, {least, 1, least}, {greatest, 1, greatest}, {least, 2, -1 << 62}, {greatest, 2, 1<<62 - 1}, {least, math.MaxInt, -2}, {greatest, math.MaxInt, 1}, {least + 1, math.MaxInt, -1}} {
		if got, ok := Avg(api.Agg{Count: c.count, Sum: c.sum}); got != c.want || !ok {
			t.Errorf("%d by %d: %d %v, not %d", c.sum, c.count, got, ok, c.want)
		}
	}
	sums := slices.Clone(edges)
	for n := int64(-40); n <= 40; n++ {
		sums = append(sums, n)
	}
	for _, sum := range sums {
		for _, count := range []int{1, 2, 3, 4, 5, 7, 8, 13, 39, 40, 41, 1 << 20, 1<<31 - 1, 1 << 32, 1 << 62, math.MaxInt - 1, math.MaxInt} {
			// Min and Max don't count.
			if got, ok := Avg(api.Agg{Count: count, Sum: sum, Min: 77, Max: -77}); got != slowAvg(sum, count) || !ok {
				t.Errorf("%d by %d: %d %v, not %d", sum, count, got, ok, slowAvg(sum, count))
			}
		}
	}
}

// P8.1: each kind of number, of something.
func TestPick(t *testing.T) {
	for _, c := range []struct {
		a    api.Agg
		want [5]int64
	}{
		{Of([]int64{3, -4}), [5]int64{2, -1, -1, -4, 3}},
		{One(5), [5]int64{1, 5, 5, 5, 5}},
		{One(0), [5]int64{1, 0, 0, 0, 0}},
		{One(least), [5]int64{1, least, least, least, least}},
		{One(greatest), [5]int64{1, greatest, greatest, greatest, greatest}},
		{Of([]int64{greatest, 1}), [5]int64{2, least, -1 << 62, 1, greatest}},
		{api.Agg{Count: math.MaxInt, Sum: 20, Min: 30, Max: 40}, [5]int64{math.MaxInt, 20, 0, 30, 40}},
		{api.Agg{Count: 10, Sum: 25, Min: 30, Max: -40}, [5]int64{10, 25, 2, 30, -40}},
	} {
		for kind, want := range c.want {
			if got, ok := Pick(c.a, kind); got != want || !ok {
				t.Errorf("Pick(%+v, %d) = %d %v, not %d", c.a, kind, got, ok, want)
			}
		}
	}
}

// wrongKinds are kinds that there aren't; cut to fewer bits, some are kinds that there are.
var wrongKinds = []int{-1, -2, -5, 5, 6, 7, 255, 256, 258, 1 << 16, 1<<32 + 2, -1 << 32, math.MaxInt, math.MinInt}

// P8.1: of another kind nothing is told, of something and of nothing.
func TestPickOfNoKind(t *testing.T) {
	for _, kind := range wrongKinds {
		for _, a := range append(none(), One(5), Of([]int64{3, -4, 8})) {
			if got, ok := Pick(a, kind); got != 0 || ok {
				t.Errorf("Pick(%+v, %d) = %d %v", a, kind, got, ok)
			}
		}
	}
}

// P8.1: of nothing, the count and the sum alone are told.
func TestPickOfNothing(t *testing.T) {
	for kind := range 5 {
		if got, ok := Pick(api.Agg{}, kind); got != 0 || ok != (kind < 2) {
			t.Errorf("kind %d: %d %v", kind, got, ok)
		}
	}
	for _, a := range none() {
		if got, ok := Avg(a); got != 0 || ok {
			t.Errorf("Avg(%+v) = %d %v", a, got, ok)
		}
		for kind := 2; kind < 5; kind++ {
			if got, ok := Pick(a, kind); got != 0 || ok {
				t.Errorf("Pick(%+v, %d) = %d %v", a, kind, got, ok)
			}
		}
		// The count and the sum are those that the Agg has.
		count, first := Pick(a, 0)
		sum, second := Pick(a, 1)
		if count != int64(a.Count) || sum != a.Sum || !first || !second {
			t.Errorf("Pick of %+v: %d %v, %d %v", a, count, first, sum, second)
		}
	}
}

// orders hands on each order of values.
func orders(values []int64, take func([]int64)) {
	var walk func(done, left []int64)
	walk = func(done, left []int64) {
		if len(left) == 0 {
			take(done)
		}
		for i := range left {
			walk(append(slices.Clone(done), left[i]), slices.Concat(left[:i], left[i+1:]))
		}
	}
	walk(nil, values)
}

// parts hands on what is told of values in every way to part them, and to merge the parts.
func parts(values []int64, take func(api.Agg)) {
	take(Of(values))
	for cut := 0; cut <= len(values); cut++ {
		if cut == 0 || cut == len(values) {
			// A part may be nothing.
			take(Merge(Of(values[:cut]), Of(values[cut:])))
			continue
		}
		parts(values[:cut], func(a api.Agg) {
			parts(values[cut:], func(b api.Agg) { take(Merge(a, b)) })
		})
	}
}

// P8.2: every order and every parting of short lists.
func TestEveryOrderAndParts(t *testing.T) {
	for _, values := range [][]int64{nil, {4}, {3, -4}, {0, 0, 0}, {least, greatest, 0, -1}, {greatest, greatest, least, 1}, {-5, -9, -3, -9}, {8, 6, 7, 6}} {
		want := slowOf(values)
		orders(values, func(list []int64) {
			parts(list, func(got api.Agg) {
				if got != want {
					t.Fatalf("%d, as %d: %+v, not %+v", values, list, got, want)
				}
			})
		})
	}
}

// P8.2: longer lists in some orders, and in two and three parts.
func TestDrawnParts(t *testing.T) {
	d := drawer(11)
	for range 20000 {
		a, b, c := d.values(), d.values(), d.values()
		want := slowOf(slices.Concat(a, b, c))
		x, y, z := Of(a), Of(b), Of(c)
		for _, got := range []api.Agg{
			Of(slices.Concat(a, b, c)),
			Of(slices.Concat(c, a, b)),
			Of(slices.Concat(b, a, c)),
			Of(slices.Sorted(slices.Values(slices.Concat(a, b, c)))),
			Merge(Merge(x, y), z),
			Merge(x, Merge(y, z)),
			Merge(z, Merge(y, x)),
			Merge(Merge(z, x), y),
			Merge(Of(slices.Concat(a, b)), z),
			Merge(x, Of(slices.Concat(b, c))),
		} {
			if got != want {
				t.Fatalf("of %d, %d and %d: %+v, not %+v", a, b, c, got, want)
			}
		}
	}
}

// P8.2: what is picked is the same, too, however it was put together.
func TestPickOfParts(t *testing.T) {
	values := []int64{9, -3, 4, -20, 5, 5}
	for cut := range len(values) + 1 {
		got := Merge(Of(values[cut:]), Of(values[:cut]))
		for kind, want := range []int64{6, 0, 0, -20, 9} {
			if n, ok := Pick(got, kind); n != want || !ok {
				t.Errorf("cut at %d, kind %d: %d %v", cut, kind, n, ok)
			}
		}
	}
}

// The values, and the memory behind them, stay as they are.
func TestValuesAreNotTurned(t *testing.T) {
	list := []int64{5, -3, 9, -9, 0}
	before := slices.Clone(list)
	for length := range len(list) + 1 {
		want := slowOf(list[:length])
		if got := Of(list[:length]); got != want || !slices.Equal(list, before) {
			t.Errorf("of %d: %+v, %d", before[:length], got, list)
		}
	}
}
