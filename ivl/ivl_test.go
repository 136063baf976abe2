package ivl

import (
	"math"
	"slices"
	"testing"

	"clerestory/api"
)

const end = math.MaxUint32

// spans is spans from numbers, two by two.
func spans(n ...uint32) []api.Span {
	var list []api.Span
	for pair := range slices.Chunk(n, 2) {
		list = append(list, api.Span{Lo: pair[0], Hi: pair[1]})
	}
	return list
}

// The tests hold the program against sets of blocks, one bit each: the six least keys, the six greatest ones, and all keys between them as one.
const (
	side   = 6
	blocks = 2*side + 1
	all    = 1<<blocks - 1
)

// block is the keys of a block.
func block(place int) api.Span {
	switch {
	case place < side:
		return api.Span{Lo: uint32(place), Hi: uint32(place)}
	case place == side:
		return api.Span{Lo: side, Hi: end - side}
	}
	key := uint32(end - (blocks - 1 - place))
	return api.Span{Lo: key, Hi: key}
}

// reach is the keys from one block to another one; none, if that one is ahead.
func reach(from, to int) api.Span {
	return api.Span{Lo: block(from).Lo, Hi: block(to).Hi}
}

// bitsOf is the blocks of all spans.
func bitsOf(list []api.Span) uint32 {
	var got uint32
	for place := range blocks {
		for _, s := range list {
			if s.Lo <= block(place).Lo && block(place).Hi <= s.Hi {
				got |= 1 << place
			}
		}
	}
	return got
}

// setOfBits is the one set of blocks: each run of them is a span.
func setOfBits(n uint32) []api.Span {
	var set []api.Span
	for place := 0; place < blocks; place++ {
		from := place
		for n>>place&1 == 1 {
			place++
		}
		if place > from {
			set = append(set, reach(from, place-1))
		}
	}
	return set
}

func sizeOfBits(n uint32) uint64 {
	var size uint64
	for place := range blocks {
		if n>>place&1 == 1 && place == side {
			size += 1<<32 - 2*side
		} else if n>>place&1 == 1 {
			size++
		}
	}
	return size
}

// shortLists are all lists of at most two spans of blocks.
func shortLists() [][]api.Span {
	var single []api.Span
	for from := range blocks {
		for to := range blocks {
			single = append(single, reach(from, to))
		}
	}
	lists := [][]api.Span{nil, {}}
	for _, a := range single {
		lists = append(lists, []api.Span{a})
		for _, b := range single {
			lists = append(lists, []api.Span{a, b})
		}
	}
	return lists
}

// drawer draws lists by a rule, the same ones each time.
type drawer uint64

func (d *drawer) below(n int) int {
	*d = *d*6364136223846793005 + 1442695040888963407
	return int(uint64(*d) >> 33 % uint64(n))
}

// list is spans of blocks in any order, some of them empty; every third time it is a set.
func (d *drawer) list() []api.Span {
	if d.below(3) == 0 {
		return setOfBits(uint32(d.below(all + 1)))
	}
	var list []api.Span
	for range d.below(7) {
		from := d.below(blocks)
		list = append(list, reach(from, min(max(from-1+d.below(4), 0), blocks-1)))
	}
	return list
}

// checkOne holds all calls of one list against the blocks.
func checkOne(t *testing.T, a []api.Span) {
	t.Helper()
	n := bitsOf(a)
	set := setOfBits(n)
	if got := Make(a); !slices.Equal(got, set) {
		t.Fatalf("Make(%v) = %v, not %v", a, got, set)
	}
	if got, want := Not(a), setOfBits(all&^n); !slices.Equal(got, want) {
		t.Fatalf("Not(%v) = %v, not %v", a, got, want)
	}
	if got := Right(a); got != slices.Equal(a, set) {
		t.Fatalf("Right(%v) = %v", a, got)
	}
	if got, want := Size(a), sizeOfBits(n); got != want {
		t.Fatalf("Size(%v) = %d, not %d", a, got, want)
	}
	for place := range blocks {
		for _, key := range []uint32{block(place).Lo, block(place).Hi} {
			if got := Has(a, key); got != (n>>place&1 == 1) {
				t.Fatalf("Has(%v, %d) = %v", a, key, got)
			}
		}
	}
}

// checkTwo holds all calls of two lists against the blocks.
func checkTwo(t *testing.T, a, b []api.Span) {
	t.Helper()
	m, n := bitsOf(a), bitsOf(b)
	for _, c := range []struct {
		name string
		got  []api.Span
		want uint32
	}{{"Union", Union(a, b), m | n}, {"Meet", Meet(a, b), m & n}, {"Minus", Minus(a, b), m &^ n}} {
		if want := setOfBits(c.want); !slices.Equal(c.got, want) {
			t.Fatalf("%s(%v, %v) = %v, not %v", c.name, a, b, c.got, want)
		}
	}
	if got := Within(a, b); got != (m&^n == 0) {
		t.Fatalf("Within(%v, %v) = %v", a, b, got)
	}
	if got := Same(a, b); got != (m == n) {
		t.Fatalf("Same(%v, %v) = %v", a, b, got)
	}
}

// P6.1: all lists of at most two spans, at both ends: empty, meeting, side by side, with one key between, in any order.
func TestOneOfShortLists(t *testing.T) {
	for _, a := range shortLists() {
		checkOne(t, a)
	}
}

// P6.1: all sets of blocks.
func TestOneOfAllSets(t *testing.T) {
	for n := range uint32(all + 1) {
		checkOne(t, setOfBits(n))
		if !Right(setOfBits(n)) {
			t.Fatalf("%v is a set", setOfBits(n))
		}
	}
}

// P6.1: longer lists, and pairs of lists that are sets and that are none.
func TestDrawnLists(t *testing.T) {
	d := drawer(1)
	for range 100000 {
		a, b := d.list(), d.list()
		checkOne(t, a)
		checkTwo(t, a, b)
		checkTwo(t, a, a)
	}
}

// P6.1: each single span against each other one.
func TestTwoOfSingleSpans(t *testing.T) {
	for from := range blocks {
		for to := range blocks {
			a := []api.Span{reach(from, to)}
			checkTwo(t, a, nil)
			checkTwo(t, nil, a)
			for low := range blocks {
				for high := range blocks {
					checkTwo(t, a, []api.Span{reach(low, high)})
				}
			}
		}
	}
}

func TestMakeByHand(t *testing.T) {
	for _, c := range []struct{ in, want []api.Span }{
		{nil, nil},
		{[]api.Span{}, nil},
		{spans(1, 3, 4, 5), spans(1, 5)},
		{spans(4, 5, 1, 3), spans(1, 5)},
		{spans(1, 3, 5, 6), spans(1, 3, 5, 6)},
		{spans(5, 6, 1, 3), spans(1, 3, 5, 6)},
		{spans(5, 6, 1, 3, 4, 4), spans(1, 6)},
		{spans(1, 3, 3, 5), spans(1, 5)},
		{spans(1, 9, 2, 3), spans(1, 9)},
		{spans(2, 3, 1, 9, 4, 5), spans(1, 9)},
		{spans(7, 7, 7, 7), spans(7, 7)},
		{spans(7, 9, 7, 8), spans(7, 9)},
		{spans(7, 8, 7, 9), spans(7, 9)},
		// Empty ones have no key, wherever they stand, and join nothing.
		{spans(3, 2), nil},
		{spans(end, 0), nil},
		{spans(1, 0), nil},
		{spans(end, end-1), nil},
		{spans(1, 3, 4, 3, 5, 6), spans(1, 3, 5, 6)},
		{spans(1, 3, 20, 4, 9, 9), spans(1, 3, 9, 9)},
		// The first key and the last one.
		{spans(0, 0), spans(0, 0)},
		{spans(end, end), spans(end, end)},
		{spans(end, end, 0, 0), spans(0, 0, end, end)},
		{spans(0, end), spans(0, end)},
		{spans(0, end, 0, end), spans(0, end)},
		{spans(0, end, end, end, 0, 0), spans(0, end)},
		{spans(1, end, 0, 0), spans(0, end)},
		{spans(end, end, 0, end-1), spans(0, end)},
		{spans(end, end, 0, end-2), spans(0, end-2, end, end)},
	} {
		if got := Make(c.in); !slices.Equal(got, c.want) {
			t.Errorf("Make(%v) = %v, not %v", c.in, got, c.want)
		}
	}
}

func TestRightByHand(t *testing.T) {
	for _, right := range [][]api.Span{nil, {}, spans(0, 0), spans(end, end), spans(0, end), spans(0, 0, 2, 2), spans(0, end-2, end, end), spans(1, 3, 5, 6, 8, end)} {
		if !Right(right) {
			t.Errorf("%v is a set", right)
		}
	}
	for _, wrong := range [][]api.Span{spans(1, 0), spans(end, 0), spans(1, 3, 4, 5), spans(1, 3, 3, 5), spans(1, 3, 2, 2), spans(5, 6, 1, 3), spans(1, 2, 1, 2), spans(0, end, 0, 0), spans(0, end-1, end, end), spans(end, end, 0, 0), spans(1, 2, 5, 4), spans(1, 2, 5, 4, 9, 9), spans(1, 2, 4, 5, 6, 7)} {
		if Right(wrong) {
			t.Errorf("%v is no set", wrong)
		}
	}
}

// P6.1: all keys and none, and both ends of numbers.
func TestAllAndNone(t *testing.T) {
	whole, part := spans(0, end), spans(3, 5, end, end)
	if !slices.Equal(Not(nil), whole) || len(Not(whole)) != 0 || Size(whole) != 1<<32 || Size(nil) != 0 {
		t.Errorf("%v %v %d", Not(nil), Not(whole), Size(whole))
	}
	if !slices.Equal(Not(part), spans(0, 2, 6, end-1)) || !slices.Equal(Not(spans(0, 0)), spans(1, end)) || !slices.Equal(Not(spans(end, end)), spans(0, end-1)) {
		t.Errorf("%v", Not(part))
	}
	if !slices.Equal(Union(whole, part), whole) || !slices.Equal(Meet(whole, part), part) || len(Minus(part, whole)) != 0 || !slices.Equal(Minus(whole, part), Not(part)) || len(Meet(nil, whole)) != 0 || !slices.Equal(Union(nil, part), part) {
		t.Error("with all keys")
	}
	if !Has(whole, 0) || !Has(whole, end) || Has(nil, 0) || Has(nil, end) || !Has(part, end) || Has(part, end-1) || Has(part, 2) || !Has(part, 3) || !Has(part, 5) || Has(part, 6) {
		t.Error("Has")
	}
	if !Within(nil, nil) || !Within(nil, part) || !Within(part, whole) || Within(whole, part) || Within(part, nil) || !Within(spans(2, 1), nil) {
		t.Error("Within")
	}
	if !Same(nil, spans(2, 1)) || !Same(whole, spans(6, end, 0, 5)) || Same(whole, spans(1, end)) || Same(whole, spans(0, end-1)) || Same(nil, spans(0, 0)) {
		t.Error("Same")
	}
}

// P6.1: spans that are no set mean the set that Make tells, in either place of each call.
func TestSpansThatAreNoSet(t *testing.T) {
	a, b := spans(9, 20, 3, 5, 1, 2, 8, 7), spans(15, 16, 30, end, 4, 6, 7, 10, 9, 9, 4, 10)
	right, other := spans(1, 5, 9, 20), spans(4, 10, 15, 16, 30, end)
	if Right(a) || Right(b) || !slices.Equal(Make(a), right) || !slices.Equal(Make(b), other) {
		t.Fatal("the lists of this test")
	}
	for _, pair := range [][2][]api.Span{{a, b}, {a, other}, {right, b}, {right, other}} {
		x, y := pair[0], pair[1]
		for _, c := range []struct{ got, want []api.Span }{
			{Union(x, y), spans(1, 20, 30, end)},
			{Meet(x, y), spans(4, 5, 9, 10, 15, 16)},
			{Meet(y, x), spans(4, 5, 9, 10, 15, 16)},
			{Minus(x, y), spans(1, 3, 11, 14, 17, 20)},
			{Minus(y, x), spans(6, 8, 30, end)},
			{Not(x), spans(0, 0, 6, 8, 21, end)},
			{Not(y), spans(0, 3, 11, 14, 17, 29)},
		} {
			if !slices.Equal(c.got, c.want) {
				t.Errorf("of %v and %v: %v, not %v", x, y, c.got, c.want)
			}
		}
		if Size(x) != 17 || Size(y) != 9+1<<32-30 || Same(x, y) || !Same(x, right) || !Same(other, y) || Within(x, y) || !Within(spans(2, 4, 1, 3), x) || !Within(x, spans(10, 20, 0, 9)) {
			t.Errorf("of %v and %v: %d %d", x, y, Size(x), Size(y))
		}
	}
}

// P6.2: the laws of an algebra, with no model beside them.
func TestAlgebra(t *testing.T) {
	d := drawer(7)
	whole := spans(0, end)
	for range 20000 {
		a, b, c := d.list(), d.list(), d.list()
		if !slices.Equal(Not(Union(a, b)), Meet(Not(a), Not(b))) || !slices.Equal(Not(Meet(a, b)), Union(Not(a), Not(b))) || !slices.Equal(Not(Not(a)), Make(a)) {
			t.Fatalf("%v, %v: all others", a, b)
		}
		if len(Meet(a, Not(a))) != 0 || !slices.Equal(Union(a, Not(a)), whole) || !slices.Equal(Minus(a, b), Meet(a, Not(b))) {
			t.Fatalf("%v, %v: neither in one nor in the other", a, b)
		}
		if !slices.Equal(Union(a, b), Union(b, a)) || !slices.Equal(Meet(a, b), Meet(b, a)) || !slices.Equal(Union(a, Meet(a, b)), Make(a)) || !slices.Equal(Meet(a, Union(a, b)), Make(a)) {
			t.Fatalf("%v, %v: in either order, and absorbed", a, b)
		}
		if !slices.Equal(Union(a, Union(b, c)), Union(Union(a, b), c)) || !slices.Equal(Meet(a, Meet(b, c)), Meet(Meet(a, b), c)) || !slices.Equal(Meet(a, Union(b, c)), Union(Meet(a, b), Meet(a, c))) {
			t.Fatalf("%v, %v, %v: grouped", a, b, c)
		}
		if Size(Union(a, b))+Size(Meet(a, b)) != Size(a)+Size(b) || Size(a)+Size(Not(a)) != 1<<32 || Size(Minus(a, b)) != Size(a)-Size(Meet(a, b)) {
			t.Fatalf("%v, %v: how many", a, b)
		}
		if Within(a, b) != Same(Meet(a, b), a) || Within(a, b) && Within(b, a) != Same(a, b) || !Within(a, Union(a, b)) || !Within(Meet(a, b), a) {
			t.Fatalf("%v, %v: within", a, b)
		}
		for _, set := range [][]api.Span{Make(a), Union(a, b), Meet(a, b), Minus(a, b), Not(a)} {
			if !Right(set) {
				t.Fatalf("%v, %v: %v is no set", a, b, set)
			}
		}
		for _, key := range []uint32{0, 1, 3, side, 1 << 31, end - 3, end} {
			x, y := Has(a, key), Has(b, key)
			if Has(Union(a, b), key) != (x || y) || Has(Meet(a, b), key) != (x && y) || Has(Minus(a, b), key) != (x && !y) || Has(Not(a), key) == x {
				t.Fatalf("%v, %v: key %d", a, b, key)
			}
		}
	}
}

// Every list's memory behind its length, too, stays as it is.
func TestNothingIsTurned(t *testing.T) {
	for _, list := range [][]api.Span{spans(9, 20, 1, 5, 3, 2, 30, 31), spans(1, 5, 9, 20, 30, 31, 40, 50)} {
		for length := range len(list) + 1 {
			before := slices.Clone(list)
			a, b := list[:length], list[:max(length-1, 0)]
			Make(a)
			Right(a)
			Not(a)
			Union(a, b)
			Union(b, a)
			Meet(a, b)
			Minus(a, b)
			Minus(b, a)
			Has(a, 4)
			Within(a, b)
			Size(a)
			Same(a, b)
			if !slices.Equal(list, before) {
				t.Fatalf("%v was turned to %v", before, list)
			}
		}
	}
}

// What is answered, its spare room too, may be written over: nothing else turns.
func TestAnswersAreNew(t *testing.T) {
	list := spans(1, 5, 9, 20, 30, 31, 40, 50)
	before := slices.Clone(list)
	for length := range len(list) + 1 {
		a := list[:length]
		for i, answer := range []func() []api.Span{
			func() []api.Span { return Make(a) },
			func() []api.Span { return Not(a) },
			func() []api.Span { return Not(Not(a)) },
			func() []api.Span { return Union(a, nil) },
			func() []api.Span { return Union(nil, a) },
			func() []api.Span { return Union(a, a) },
			func() []api.Span { return Meet(a, a) },
			func() []api.Span { return Meet(a, spans(0, end)) },
			func() []api.Span { return Meet(spans(0, end), a) },
			func() []api.Span { return Minus(a, nil) },
		} {
			first, second := answer(), answer()
			want := slices.Clone(second)
			room := first[:cap(first)]
			for j := range room {
				room[j] = api.Span{Lo: 77, Hi: 7}
			}
			if !slices.Equal(list, before) || !slices.Equal(second, want) {
				t.Fatalf("case %d of %d spans: %v %v", i, length, list, second)
			}
		}
	}
}

// P6.1: many spans, falling, so that each joins the one behind it, or stays apart.
func TestManySpans(t *testing.T) {
	const many = 200000
	var touching, apart []api.Span
	for i := range uint32(many) {
		key := end - 3*i
		touching = append(touching, api.Span{Lo: key - 2, Hi: key})
		apart = append(apart, api.Span{Lo: key - 1, Hi: key})
	}
	if got := Make(touching); !slices.Equal(got, spans(end-3*many+1, end)) {
		t.Errorf("%d spans", len(got))
	}
	set := Make(apart)
	if len(set) != many || !Right(set) || Size(apart) != 2*many || len(Not(apart)) != many || !Within(apart, touching) || Within(touching, apart) {
		t.Errorf("%d spans", len(set))
	}
	if got := Minus(touching, apart); len(got) != many || Size(got) != many {
		t.Errorf("%d spans, %d keys", len(got), Size(got))
	}
}
