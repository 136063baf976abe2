package lattice

import (
	"math"
	"slices"
	"testing"

	"clerestory/api"
	"clerestory/label"
)

// samples are labels with levels and categories at their ends and in between, those above MaxLevel too.
func samples() []api.Label {
	var list []api.Label
	for _, level := range []uint8{0, 1, 2, api.MaxLevel - 1, api.MaxLevel, api.MaxLevel + 1, 255} {
		for _, cats := range []uint16{0, 1, 2, 3, 6, 0x7FFF, 0x8000, 0x8001, 0xFFFF} {
			list = append(list, api.Label{Level: level, Cats: cats})
		}
	}
	return list
}

// lists are labels that can be declared: one alone, chains both ways, some that are apart, and all 16.
func lists() [][]api.Label {
	var up, down, apart, cube []api.Label
	for n := range 16 {
		up = append(up, api.Label{Level: uint8(n)})
		down = append(down, api.Label{Level: uint8(15 - n), Cats: 1<<(15-n) - 1})
		apart = append(apart, api.Label{Level: 3, Cats: 1 << n})
		cube = append(cube, api.Label{Level: uint8(n % 2), Cats: uint16(n / 2)})
	}
	return [][]api.Label{
		{{}},
		{{Level: 15, Cats: 0xFFFF}},
		{{}, {Level: 1}},
		{{Level: 2, Cats: 3}, {Level: 1, Cats: 1}, {Level: 1, Cats: 2}, {}},
		{{Level: 2}, {Level: 1, Cats: 1}, {Level: 2, Cats: 1}, {Level: 1}},
		{{Level: 15, Cats: 0x8000}, {Level: 15}, {Level: 0, Cats: 0x8000}, {Level: 14, Cats: 0xFFFF}, {Level: 15, Cats: 0xFFFF}},
		up, down, apart, cube,
	}
}

func declare(t *testing.T, labels []api.Label) *Lattice {
	t.Helper()
	l, e := New(labels)
	if e != api.OK || l == nil {
		t.Fatalf("%v: %d", labels, e)
	}
	return l
}

// above says what dominating is, category by category, apart from the program's own.
func above(a, b api.Label) bool {
	for place := range 16 {
		if b.Cats>>place&1 == 1 && a.Cats>>place&1 == 0 {
			return false
		}
	}
	return a.Level >= b.Level
}

// slowBelow is the mask of those that a label dominates.
func slowBelow(labels []api.Label, x api.Label) uint32 {
	var mask uint32
	for i, y := range labels {
		if above(x, y) {
			mask |= 1 << i
		}
	}
	return mask
}

// slowClosed goes by the words: each bit is a declared label's, and has all those that it dominates.
func slowClosed(labels []api.Label, mask uint32) bool {
	for i := range 32 {
		if mask>>i&1 == 0 {
			continue
		}
		if i >= len(labels) {
			return false
		}
		for j, y := range labels {
			if above(labels[i], y) && mask>>j&1 == 0 {
				return false
			}
		}
	}
	return true
}

// masks are masks of declared labels, with and without bits of others.
func masks(n int) []uint32 {
	list := []uint32{0, math.MaxUint32, 1 << 31, 1<<31 | 1, 1 << 16, 1 << n, 1<<n | 1, 1<<n - 1, math.MaxUint32 << n}
	for i := range n {
		list = append(list, 1<<i, 1<<i|1<<n, 1<<i|1<<31, (1<<n-1)&^(1<<i))
	}
	next := uint64(n)
	for range 100 {
		next = next*6364136223846793005 + 1442695040888963407
		list = append(list, uint32(next>>32), uint32(next>>32)&(1<<n-1))
	}
	return list
}

// P5.1: no label, one, 16, 17 and more.
func TestNewCounts(t *testing.T) {
	labels := lists()[9]
	for n := 1; n <= 16; n++ {
		if l := declare(t, labels[:n]); l.Len() != n {
			t.Errorf("%d labels: %d", n, l.Len())
		}
	}
	for i, none := range [][]api.Label{nil, {}, labels[:0]} {
		if l, e := New(none); l != nil || e != api.ErrMany {
			t.Errorf("none, case %d: %d", i, e)
		}
	}
	seventeen := append(slices.Clone(labels), api.Label{Level: 9})
	if l, e := New(seventeen); l != nil || e != api.ErrMany {
		t.Errorf("17: %d", e)
	}
	if l, e := New(make([]api.Label, 1000)); l != nil || e != api.ErrMany {
		t.Errorf("1000: %d", e)
	}
}

// P5.1: the error is that of the first label that has one; too many are told ahead of all.
func TestNewErrors(t *testing.T) {
	high, top := api.Label{Level: 16}, api.Label{Level: 15}
	many := func(x api.Label) []api.Label { return slices.Repeat([]api.Label{x}, 17) }
	for i, c := range []struct {
		labels []api.Label
		e      api.Errno
	}{
		{[]api.Label{top}, api.OK},
		{[]api.Label{high}, api.ErrRange},
		{[]api.Label{{Level: 255, Cats: 0xFFFF}}, api.ErrRange},
		{[]api.Label{top, {}, high}, api.ErrRange},
		{[]api.Label{{}, {}}, api.ErrTwice},
		{[]api.Label{{Level: 1, Cats: 2}, {}, {Level: 1, Cats: 2}}, api.ErrTwice},
		{[]api.Label{top, {Level: 14}, {Level: 13}, top}, api.ErrTwice},
		// The one that comes twice stands ahead of the high one, and behind it.
		{[]api.Label{{}, {}, high}, api.ErrTwice},
		{[]api.Label{high, {}, {}}, api.ErrRange},
		{[]api.Label{{}, high, {}}, api.ErrRange},
		{[]api.Label{high, high}, api.ErrRange},
		{[]api.Label{{}, {}, high, high}, api.ErrTwice},
		// The level or the categories alone are no label.
		{[]api.Label{{Level: 1}, {Level: 2}, {Level: 1, Cats: 1}, {Level: 2, Cats: 1}}, api.OK},
		{many(high), api.ErrMany},
		{many(top), api.ErrMany},
	} {
		l, e := New(c.labels)
		if e != c.e || (l == nil) != (e != api.OK) {
			t.Errorf("case %d: %v %d, not %d", i, l, e, c.e)
		}
	}
}

// P5.1: every place among 16 at which a label comes again, or is too high.
func TestNewErrorsAtEveryPlace(t *testing.T) {
	for _, labels := range lists() {
		for i := range labels {
			high := slices.Clone(labels)
			high[i].Level = 16
			if l, e := New(high); l != nil || e != api.ErrRange {
				t.Errorf("%v: %d", high, e)
			}
			for j := range i {
				twice := slices.Clone(labels)
				twice[i] = twice[j]
				if l, e := New(twice); l != nil || e != api.ErrTwice {
					t.Errorf("%v: %d", twice, e)
				}
			}
		}
	}
}

// P5.1: labels and their numbers, there and back.
func TestIndexAndAt(t *testing.T) {
	for _, labels := range lists() {
		l := declare(t, labels)
		for i, want := range labels {
			if x, e := l.At(i); x != want || e != api.OK {
				t.Errorf("%v: At(%d) = %+v %d", labels, i, x, e)
			}
			if n, e := l.Index(want); n != i || e != api.OK {
				t.Errorf("%v: Index(%+v) = %d %d", labels, want, n, e)
			}
		}
		for _, i := range []int{-1, -2, len(labels), len(labels) + 1, 16, 17, 31, 32, 64, 1 << 32, -1 << 32, math.MinInt, math.MaxInt} {
			if x, e := l.At(i); x != (api.Label{}) || e != api.ErrLabel {
				t.Errorf("%v: At(%d) = %+v %d", labels, i, x, e)
			}
			if got := l.Down(i); got != 0 {
				t.Errorf("%v: Down(%d) = %b", labels, i, got)
			}
		}
		for _, x := range samples() {
			if slices.Contains(labels, x) {
				continue
			}
			if n, e := l.Index(x); n != 0 || e != api.ErrLabel {
				t.Errorf("%v: Index(%+v) = %d %d", labels, x, n, e)
			}
		}
	}
}

// P5.1: what declared labels dominate, and all others, those above MaxLevel too.
func TestDownAndBelow(t *testing.T) {
	for _, labels := range lists() {
		l := declare(t, labels)
		for i, x := range labels {
			if got, want := l.Down(i), slowBelow(labels, x); got != want {
				t.Errorf("%v: Down(%d) = %b, not %b", labels, i, got, want)
			}
		}
		for _, x := range append(samples(), labels...) {
			if got, want := l.Below(x), slowBelow(labels, x); got != want {
				t.Errorf("%v: Below(%+v) = %b, not %b", labels, x, got, want)
			}
		}
	}
}

func TestByHand(t *testing.T) {
	two := declare(t, []api.Label{{}, {Level: 1}})
	if two.Down(0) != 1 || two.Down(1) != 3 {
		t.Errorf("%b %b", two.Down(0), two.Down(1))
	}
	l := declare(t, []api.Label{{Level: 1, Cats: 1}, {Level: 3}, {Level: 3, Cats: 3}, {Level: 1}})
	for _, c := range []struct {
		x    api.Label
		want uint32
	}{
		{api.Label{}, 0},
		{api.Label{Cats: 0xFFFF}, 0},
		{api.Label{Level: 1, Cats: 2}, 8},
		{api.Label{Level: 2, Cats: 1}, 9},
		{api.Label{Level: 3, Cats: 1}, 11},
		{api.Label{Level: 16}, 10},
		{api.Label{Level: 255, Cats: 0xFFFF}, 15},
	} {
		if got := l.Below(c.x); got != c.want {
			t.Errorf("Below(%+v) = %b, not %b", c.x, got, c.want)
		}
	}
	for _, c := range []struct {
		mask, closed uint32
	}{{0, 0}, {1, 9}, {2, 10}, {4, 15}, {8, 8}, {3, 11}, {9, 9}, {16, 0}, {18, 10}, {1<<31 | 8, 8}, {math.MaxUint32, 15}, {math.MaxUint32 - 15, 0}} {
		if got := l.Close(c.mask); got != c.closed {
			t.Errorf("Close(%b) = %b, not %b", c.mask, got, c.closed)
		}
		if got := l.Closed(c.mask); got != (c.mask == c.closed) {
			t.Errorf("Closed(%b) = %v", c.mask, got)
		}
	}
}

// P5.1: of masks with and without bits of no label.
func TestClosed(t *testing.T) {
	for _, labels := range lists() {
		l := declare(t, labels)
		for _, mask := range masks(len(labels)) {
			if got, want := l.Closed(mask), slowClosed(labels, mask); got != want {
				t.Errorf("%v: Closed(%b) = %v", labels, mask, got)
			}
		}
	}
}

// P5.1, P5.2: what is closed is closed, has the mask's declared ones, and is the least such.
func TestCloseIsLeast(t *testing.T) {
	for _, labels := range lists() {
		if len(labels) > 5 {
			continue
		}
		l := declare(t, labels)
		for _, mask := range masks(len(labels)) {
			own := mask & (1<<len(labels) - 1)
			// What is closed meets in what is closed: the least one is where all of them meet.
			want := uint32(1)<<len(labels) - 1
			for other := range uint32(1) << len(labels) {
				if other&own == own && slowClosed(labels, other) {
					want &= other
				}
			}
			if got := l.Close(mask); got != want {
				t.Errorf("%v: Close(%b) = %b, not %b", labels, mask, got, want)
			}
		}
	}
}

// P5.2: closing holds what it had, turns nothing the second time, and rises with the mask.
func TestCloseLaws(t *testing.T) {
	for _, labels := range lists() {
		l := declare(t, labels)
		list := masks(len(labels))
		for _, a := range list {
			closed := l.Close(a)
			own := a & (1<<len(labels) - 1)
			if !l.Closed(closed) || !slowClosed(labels, closed) || l.Close(closed) != closed || closed&own != own || l.Close(own) != closed {
				t.Fatalf("%v: Close(%b) = %b", labels, a, closed)
			}
			if l.Closed(a) != (closed == a) {
				t.Fatalf("%v: Closed(%b), whose Close is %b", labels, a, closed)
			}
			for _, b := range list {
				if l.Close(a|b) != closed|l.Close(b) {
					t.Fatalf("%v: %b and %b", labels, a, b)
				}
			}
		}
		for i := range labels {
			if !l.Closed(l.Down(i)) || l.Close(1<<i) != l.Down(i) {
				t.Fatalf("%v: %d's Down is %b, its Close %b", labels, i, l.Down(i), l.Close(1<<i))
			}
		}
	}
}

// P5.2: below a meet is what is below both; what is below anything is closed.
func TestBelowMeet(t *testing.T) {
	for _, labels := range lists() {
		l := declare(t, labels)
		for _, a := range append(samples(), labels...) {
			if !l.Closed(l.Below(a)) {
				t.Fatalf("%v: Below(%+v) = %b isn't closed", labels, a, l.Below(a))
			}
			for _, b := range append(samples(), labels...) {
				if got, want := l.Below(label.Meet(a, b)), l.Below(a)&l.Below(b); got != want {
					t.Fatalf("%v: below %+v and %+v: %b, not %b", labels, a, b, got, want)
				}
			}
		}
	}
}

// P5.1: the list is neither turned nor kept.
func TestLabelsAreNotKept(t *testing.T) {
	room := []api.Label{{Level: 1}, {}, {Level: 7}, {Level: 8}}
	before := slices.Clone(room)
	l := declare(t, room[:2])
	if !slices.Equal(room, before) {
		t.Fatalf("turned to %v", room)
	}
	for i := range room {
		room[i] = api.Label{Level: 9, Cats: 9}
	}
	if x, e := l.At(0); x != before[0] || e != api.OK || l.Down(0) != 3 || l.Down(1) != 2 || l.Below(api.Label{}) != 2 || l.Close(1) != 3 {
		t.Errorf("%+v %d: what was written over counts", x, e)
	}
	if i, e := l.Index(api.Label{Level: 1}); i != 0 || e != api.OK {
		t.Errorf("%d %d", i, e)
	}
	if _, e := l.Index(api.Label{Level: 9, Cats: 9}); e != api.ErrLabel {
		t.Error("what was written over is declared")
	}
}

// P5.1: two lattices have nothing in common.
func TestTwoLattices(t *testing.T) {
	a, b := declare(t, []api.Label{{}, {Level: 1}}), declare(t, []api.Label{{Level: 1}, {Level: 2}, {}})
	if a.Len() != 2 || b.Len() != 3 || a.Down(1) != 3 || b.Down(1) != 7 || b.Down(0) != 5 {
		t.Errorf("%b %b %b", a.Down(1), b.Down(1), b.Down(0))
	}
	i, _ := a.Index(api.Label{})
	j, _ := b.Index(api.Label{})
	if i != 0 || j != 2 {
		t.Errorf("%d %d", i, j)
	}
}

// A lattice that New didn't make has no labels, and no call of it panics.
func TestNothingDeclared(t *testing.T) {
	var l Lattice
	if _, e := l.Index(api.Label{}); e != api.ErrLabel {
		t.Error("Index")
	}
	if _, e := l.At(0); e != api.ErrLabel {
		t.Error("At")
	}
	if l.Len() != 0 || l.Down(0) != 0 || l.Below(api.Label{Level: 15}) != 0 || l.Close(1) != 0 || !l.Closed(0) || l.Closed(1) {
		t.Error("masks")
	}
}
