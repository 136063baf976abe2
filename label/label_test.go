package label

import (
	"math"
	"testing"

	"clerestory/api"
)

// samples are labels with levels and categories at their ends and in between, those above MaxLevel too.
func samples() []api.Label {
	var list []api.Label
	for _, level := range []uint8{0, 1, 2, api.MaxLevel - 1, api.MaxLevel, api.MaxLevel + 1, 127, 128, 255} {
		for _, cats := range []uint16{0, 1, 2, 3, 5, 6, 0x00FF, 0x0100, 0x7FFF, 0x8000, 0x8001, 0xFFFF} {
			list = append(list, api.Label{Level: level, Cats: cats})
		}
	}
	return list
}

// above says what dominating is, category by category, apart from the program's own.
func above(a, b api.Label) bool {
	for place := range 16 {
		if b.Cats>>place&1 == 1 && a.Cats>>place&1 == 0 {
			return false
		}
	}
	return a.Level >= b.Level
}

// P4.1: of all pairs, those whose level is no lower and that have all categories.
func TestDominates(t *testing.T) {
	for _, a := range samples() {
		for _, b := range samples() {
			if got, want := Dominates(a, b), above(a, b); got != want {
				t.Fatalf("Dominates(%+v, %+v) = %v", a, b, got)
			}
		}
	}
}

func TestByHand(t *testing.T) {
	for _, c := range []struct {
		a, b, join, meet api.Label
		aAbove, bAbove   bool
	}{
		{api.Label{Level: 2, Cats: 1}, api.Label{Level: 1}, api.Label{Level: 2, Cats: 1}, api.Label{Level: 1}, true, false},
		{api.Label{}, api.Label{}, api.Label{}, api.Label{}, true, true},
		{api.Label{Level: 3, Cats: 6}, api.Label{Level: 3, Cats: 6}, api.Label{Level: 3, Cats: 6}, api.Label{Level: 3, Cats: 6}, true, true},
		// Neither dominates the other: by categories, by levels against categories, by both.
		{api.Label{Level: 1, Cats: 1}, api.Label{Level: 1, Cats: 2}, api.Label{Level: 1, Cats: 3}, api.Label{Level: 1}, false, false},
		{api.Label{Level: 2}, api.Label{Level: 1, Cats: 4}, api.Label{Level: 2, Cats: 4}, api.Label{Level: 1}, false, false},
		{api.Label{Level: 15, Cats: 5}, api.Label{Level: 14, Cats: 6}, api.Label{Level: 15, Cats: 7}, api.Label{Level: 14, Cats: 4}, false, false},
		// A level above MaxLevel, and the greatest ones.
		{api.Label{Level: 16}, api.Label{Level: 15}, api.Label{Level: 16}, api.Label{Level: 15}, true, false},
		{api.Label{Level: 255, Cats: 0xFFFF}, api.Label{Level: 15, Cats: 0x8001}, api.Label{Level: 255, Cats: 0xFFFF}, api.Label{Level: 15, Cats: 0x8001}, true, false},
		{api.Label{Level: 128}, api.Label{Level: 127, Cats: 1}, api.Label{Level: 128, Cats: 1}, api.Label{Level: 127}, false, false},
	} {
		if Join(c.a, c.b) != c.join || Join(c.b, c.a) != c.join || Meet(c.a, c.b) != c.meet || Meet(c.b, c.a) != c.meet {
			t.Errorf("%+v, %+v: joined %+v, met %+v", c.a, c.b, Join(c.a, c.b), Meet(c.a, c.b))
		}
		if Dominates(c.a, c.b) != c.aAbove || Dominates(c.b, c.a) != c.bAbove {
			t.Errorf("%+v, %+v: %v, %v", c.a, c.b, Dominates(c.a, c.b), Dominates(c.b, c.a))
		}
	}
}

// P4.1, P4.2: what is joined dominates both, and is dominated by all that do; what is met likewise, the other way.
func TestJoinIsLeastAndMeetGreatest(t *testing.T) {
	list := samples()
	for _, a := range list {
		for _, b := range list {
			join, meet := Join(a, b), Meet(a, b)
			if !above(join, a) || !above(join, b) || !above(a, meet) || !above(b, meet) {
				t.Fatalf("%+v, %+v: joined %+v, met %+v", a, b, join, meet)
			}
			for _, c := range list {
				if above(c, a) && above(c, b) && !above(c, join) {
					t.Fatalf("%+v dominates %+v and %+v, not %+v", c, a, b, join)
				}
				if above(a, c) && above(b, c) && !above(meet, c) {
					t.Fatalf("%+v is below %+v and %+v, not %+v", c, a, b, meet)
				}
			}
		}
	}
}

// P4.2: the order's laws.
func TestDominatingIsAnOrder(t *testing.T) {
	list := samples()
	for _, a := range list {
		if !Dominates(a, a) {
			t.Fatalf("%+v doesn't dominate itself", a)
		}
		for _, b := range list {
			if Dominates(a, b) && Dominates(b, a) && a != b {
				t.Fatalf("%+v and %+v dominate each other", a, b)
			}
			for _, c := range list {
				if Dominates(a, b) && Dominates(b, c) && !Dominates(a, c) {
					t.Fatalf("%+v, %+v, %+v", a, b, c)
				}
			}
		}
	}
}

// P4.2: the lattice's laws.
func TestLatticeLaws(t *testing.T) {
	list := samples()
	for _, a := range list {
		if Join(a, a) != a || Meet(a, a) != a {
			t.Fatalf("%+v with itself: joined %+v, met %+v", a, Join(a, a), Meet(a, a))
		}
		for _, b := range list {
			if Join(a, b) != Join(b, a) || Meet(a, b) != Meet(b, a) {
				t.Fatalf("%+v, %+v: the order counts", a, b)
			}
			if Join(a, Meet(a, b)) != a || Meet(a, Join(a, b)) != a {
				t.Fatalf("%+v, %+v: not absorbed", a, b)
			}
			if Dominates(a, b) != (Join(a, b) == a) || Dominates(a, b) != (Meet(a, b) == b) {
				t.Fatalf("%+v, %+v: dominating isn't what joining and meeting say", a, b)
			}
			for _, c := range list {
				if Join(Join(a, b), c) != Join(a, Join(b, c)) || Meet(Meet(a, b), c) != Meet(a, Meet(b, c)) {
					t.Fatalf("%+v, %+v, %+v: the grouping counts", a, b, c)
				}
			}
		}
	}
}

// P4.2: of labels that may be, what is joined and met may be.
func TestJoinAndMeetStayInRange(t *testing.T) {
	for _, a := range samples() {
		for _, b := range samples() {
			if Check(a) == api.OK && Check(b) == api.OK && (Check(Join(a, b)) != api.OK || Check(Meet(a, b)) != api.OK) {
				t.Fatalf("%+v, %+v", a, b)
			}
		}
	}
}

// P4.1: every level, with no categories and with all.
func TestCheck(t *testing.T) {
	for level := range 256 {
		want := api.OK
		if level >= 16 {
			want = api.ErrRange
		}
		for _, cats := range []uint16{0, 1, 0x8000, 0xFFFF} {
			if got := Check(api.Label{Level: uint8(level), Cats: cats}); got != want {
				t.Errorf("level %d, categories %#x: %d, not %d", level, cats, got, want)
			}
		}
	}
}

// P4.1: every label that there is has its own number, and is found by it if its level may be.
func TestNumberOfAllLabels(t *testing.T) {
	want := uint64(0)
	for level := range 256 {
		for cats := range 1 << 16 {
			l := api.Label{Level: uint8(level), Cats: uint16(cats)}
			if got := Number(l); got != want {
				t.Fatalf("%+v: %d, not %d", l, got, want)
			}
			back, e := From(want)
			if level <= 15 && (back != l || e != api.OK) || level > 15 && (back != api.Label{} || e != api.ErrRange) {
				t.Fatalf("%d: %+v %d", want, back, e)
			}
			want++
		}
	}
}

func TestFromByHand(t *testing.T) {
	for _, c := range []struct {
		n uint64
		l api.Label
		e api.Errno
	}{
		{0, api.Label{}, api.OK},
		{1, api.Label{Cats: 1}, api.OK},
		{1<<16 - 1, api.Label{Cats: 0xFFFF}, api.OK},
		{1 << 16, api.Label{Level: 1}, api.OK},
		{1<<20 - 2, api.Label{Level: 15, Cats: 0xFFFE}, api.OK},
		{1<<20 - 1, api.Label{Level: 15, Cats: 0xFFFF}, api.OK},
		{1 << 20, api.Label{}, api.ErrRange},
		{1<<20 + 1, api.Label{}, api.ErrRange},
		{1<<24 - 1, api.Label{}, api.ErrRange},
		{1 << 24, api.Label{}, api.ErrRange},
		{1<<24 + 5, api.Label{}, api.ErrRange},
		{1 << 32, api.Label{}, api.ErrRange},
		{1<<32 + 1, api.Label{}, api.ErrRange},
		{math.MaxInt64, api.Label{}, api.ErrRange},
		{1 << 63, api.Label{}, api.ErrRange},
		{math.MaxUint64, api.Label{}, api.ErrRange},
	} {
		if l, e := From(c.n); l != c.l || e != c.e {
			t.Errorf("%d: %+v %d", c.n, l, e)
		}
	}
}

// P4.1: the level counts ahead of the categories.
func TestLess(t *testing.T) {
	for _, a := range samples() {
		for _, b := range samples() {
			want := a.Level < b.Level || a.Level == b.Level && a.Cats < b.Cats
			if got := Less(a, b); got != want {
				t.Fatalf("Less(%+v, %+v) = %v", a, b, got)
			}
		}
	}
}
