package area

import (
	"iter"
	"math"
	"slices"
	"testing"

	"clerestory/api"
	"clerestory/ivl"
)

const end = math.MaxUint32

// spans is spans from numbers, two by two.
func spans(n ...uint32) []api.Span {
	var list []api.Span
	for pair := range slices.Chunk(n, 2) {
		list = append(list, api.Span{Lo: pair[0], Hi: pair[1]})
	}
	return list
}

// The tests hold areas against models: for each label blocks of keys, one bit each. These are the three least keys, the three greatest ones, and all keys between them as one.
const (
	side   = 3
	blocks = 2*side + 1
	all    = 1<<blocks - 1
)

type model []uint8

// block is the keys of a block.
func block(place int) api.Span {
	switch {
	case place < side:
		return api.Span{Lo: uint32(place), Hi: uint32(place)}
	case place == side:
		return api.Span{Lo: side, Hi: end - side}
	}
	key := uint32(end - (blocks - 1 - place))
	return api.Span{Lo: key, Hi: key}
}

// reach is the keys from one block to another one; none, if that one is ahead.
func reach(from, to int) api.Span {
	return api.Span{Lo: block(from).Lo, Hi: block(to).Hi}
}

// setOf is the one set of blocks: each run of them is a span.
func setOf(n uint8) []api.Span {
	var set []api.Span
	for place := 0; place < blocks; place++ {
		from := place
		for place < blocks && n>>place&1 == 1 {
			place++
		}
		if place > from {
			set = append(set, reach(from, place-1))
		}
	}
	return set
}

// bitsOf is the blocks of all spans.
func bitsOf(list []api.Span) uint8 {
	var got uint8
	for place := range blocks {
		for _, s := range list {
			if s.Lo <= block(place).Lo && block(place).Hi <= s.Hi {
				got |= 1 << place
			}
		}
	}
	return got
}

func modelOf(a [][]api.Span) model {
	var m model
	for _, list := range a {
		m = append(m, bitsOf(list))
	}
	return m
}

// at is a label's blocks; none, if there is no such label.
func (m model) at(i int) uint8 {
	if i < 0 || i >= len(m) {
		return 0
	}
	return m[i]
}

// with is what is made of two models, label by label.
func (m model) with(n model, join func(x, y uint8) uint8) model {
	var made model
	for i := range max(len(m), len(n)) {
		made = append(made, join(m.at(i), n.at(i)))
	}
	return made
}

// area is the one area of a model: each label's list is a set.
func (m model) area() [][]api.Span {
	var a [][]api.Span
	for _, bits := range m {
		a = append(a, setOf(bits))
	}
	return a
}

// like tells whether two areas have as many labels, and for each one the same spans.
func like(a, b [][]api.Span) bool {
	return slices.EqualFunc(a, b, func(x, y []api.Span) bool { return slices.Equal(x, y) })
}

// item is what Cells tells at once.
type item struct {
	label int
	span  api.Span
}

func items(seq iter.Seq2[int, api.Span]) []item {
	var list []item
	for i, s := range seq {
		list = append(list, item{i, s})
	}
	return list
}

// items are those that Cells must tell.
func (m model) items() []item {
	var list []item
	for i, bits := range m {
		for _, s := range setOf(bits) {
			list = append(list, item{i, s})
		}
	}
	return list
}

// drawer draws areas by a rule, the same ones each time.
type drawer uint64

func (d *drawer) below(n int) int {
	*d = *d*6364136223846793005 + 1442695040888963407
	return int(uint64(*d) >> 33 % uint64(n))
}

// list is a label's spans: none, a set, or spans in any order, some of them empty.
func (d *drawer) list() []api.Span {
	switch d.below(4) {
	case 0:
		return nil
	case 1:
		return setOf(uint8(d.below(all + 1)))
	}
	var list []api.Span
	for range d.below(5) {
		list = append(list, reach(d.below(blocks), d.below(blocks)))
	}
	return list
}

// area has mostly a few labels, and sometimes more than there are bits in a mask.
func (d *drawer) area() [][]api.Span {
	labels := d.below(5)
	if d.below(20) == 0 {
		labels = 14 + d.below(25)
	}
	var a [][]api.Span
	for range labels {
		a = append(a, d.list())
	}
	return a
}

// checkOne holds all calls of one area against its model.
func checkOne(t *testing.T, a [][]api.Span) {
	t.Helper()
	m := modelOf(a)
	var mask uint32
	empty := true
	for i, bits := range m {
		empty = empty && bits == 0
		if bits != 0 && i < 32 {
			mask |= 1 << i
		}
	}
	if got := Mask(a); got != mask {
		t.Fatalf("Mask(%v) = %b, not %b", a, got, mask)
	}
	if got := Empty(a); got != empty {
		t.Fatalf("Empty(%v) = %v", a, got)
	}
	if got, want := items(Cells(a)), m.items(); !slices.Equal(got, want) {
		t.Fatalf("Cells(%v): %v, not %v", a, got, want)
	}
	for label := -2; label < len(a)+3; label++ {
		for place := range blocks {
			for _, key := range []uint32{block(place).Lo, block(place).Hi} {
				if got := Has(a, api.Cell{Label: label, Key: key}); got != (m.at(label)>>place&1 == 1) {
					t.Fatalf("Has(%v, %d of %d) = %v", a, key, label, got)
				}
			}
		}
	}
}

// checkTwo holds all calls of two areas against their models.
func checkTwo(t *testing.T, a, b [][]api.Span) {
	t.Helper()
	m, n := modelOf(a), modelOf(b)
	alone := m.with(n, func(x, y uint8) uint8 { return x &^ y })
	for _, c := range []struct {
		name string
		got  [][]api.Span
		want model
	}{
		{"Union", Union(a, b), m.with(n, func(x, y uint8) uint8 { return x | y })},
		{"Meet", Meet(a, b), m.with(n, func(x, y uint8) uint8 { return x & y })},
		{"Minus", Minus(a, b), alone},
	} {
		if !like(c.got, c.want.area()) {
			t.Fatalf("%s(%v, %v) = %v, not %v", c.name, a, b, c.got, c.want.area())
		}
	}
	within, same := true, true
	for i := range alone {
		within = within && alone[i] == 0
		same = same && m.at(i) == n.at(i)
	}
	if got := Within(a, b); got != within {
		t.Fatalf("Within(%v, %v) = %v", a, b, got)
	}
	if got := Same(a, b); got != same {
		t.Fatalf("Same(%v, %v) = %v", a, b, got)
	}
}

// P7.1: all pairs of areas of at most two labels, each with the first key, the last one and those between them, or some of these.
func TestAllSmallAreas(t *testing.T) {
	var sets []uint8
	for n := range uint8(8) {
		sets = append(sets, n&1|n>>1&1<<side|n>>2<<(blocks-1))
	}
	list := []model{{}}
	for _, x := range sets {
		list = append(list, model{x})
		for _, y := range sets {
			list = append(list, model{x, y})
		}
	}
	for _, m := range list {
		checkOne(t, m.area())
		for _, n := range list {
			checkTwo(t, m.area(), n.area())
		}
	}
}

// P7.1, P7.2: areas that are drawn, of unlike many labels, with spans that are sets and that are none.
func TestDrawnAreas(t *testing.T) {
	d := drawer(1)
	for range 30000 {
		a, b := d.area(), d.area()
		checkOne(t, a)
		checkTwo(t, a, b)
		checkTwo(t, b, a)
		checkTwo(t, a, a)
		checkTwo(t, a, nil)
		checkTwo(t, nil, a)
	}
}

// P7.1: how many labels there are, and which of them have the set.
func TestOf(t *testing.T) {
	lists := [][]api.Span{nil, {}, spans(3, 2), spans(0, 0), spans(end, end), spans(0, end), spans(4, 5, 1, 3), spans(9, 9, 7, 6, 1, 3, 2, 4), spans(end, end, 0, 0)}
	for _, n := range []int{math.MinInt, -1 << 32, -16, -1, 0, 1, 2, 3, 15, 16, 17, 31, 32, 33, 64, 256, 1 << 32, math.MaxInt} {
		for _, mask := range []uint32{0, 1, 2, 3, 5, 0x8000, 0xFFFF, 0x10000, 0x10001, 0x18000, 1 << 31, 0xFFFF0000, end} {
			for _, list := range lists {
				a := Of(n, mask, list)
				if want := min(max(n, 0), 16); len(a) != want {
					t.Fatalf("Of(%d, %b, %v) has %d labels, not %d", n, mask, list, len(a), want)
				}
				for i, got := range a {
					var want []api.Span
					if mask>>i&1 == 1 {
						want = ivl.Make(list)
					}
					if !slices.Equal(got, want) {
						t.Fatalf("Of(%d, %b, %v)[%d] = %v, not %v", n, mask, list, i, got, want)
					}
				}
			}
		}
	}
	if got := Of(2, 2, spans(1, 3)); !like(got, [][]api.Span{nil, spans(1, 3)}) {
		t.Errorf("%v", got)
	}
	if got := Of(3, 6, spans(4, 5, 1, 3, 9, 8)); !like(got, [][]api.Span{nil, spans(1, 5), spans(1, 5)}) {
		t.Errorf("%v", got)
	}
}

func TestByHand(t *testing.T) {
	a := [][]api.Span{spans(1, 5), nil, spans(7, 7, 3, 4), spans(0, end)}
	b := [][]api.Span{spans(5, 6), spans(2, 2, 9, 8)}
	for _, c := range []struct {
		name      string
		got, want [][]api.Span
	}{
		{"Union", Union(a, b), [][]api.Span{spans(1, 6), spans(2, 2), spans(3, 4, 7, 7), spans(0, end)}},
		{"Union", Union(b, a), [][]api.Span{spans(1, 6), spans(2, 2), spans(3, 4, 7, 7), spans(0, end)}},
		{"Meet", Meet(a, b), [][]api.Span{spans(5, 5), nil, nil, nil}},
		{"Meet", Meet(b, a), [][]api.Span{spans(5, 5), nil, nil, nil}},
		{"Minus", Minus(a, b), [][]api.Span{spans(1, 4), nil, spans(3, 4, 7, 7), spans(0, end)}},
		{"Minus", Minus(b, a), [][]api.Span{spans(6, 6), spans(2, 2), nil, nil}},
		{"Union of none", Union(nil, [][]api.Span{}), nil},
		{"Meet of none", Meet(nil, nil), nil},
		{"Minus of none", Minus([][]api.Span{}, nil), nil},
		{"Minus of itself", Minus(a, a), [][]api.Span{nil, nil, nil, nil}},
	} {
		if !like(c.got, c.want) {
			t.Errorf("%s: %v, not %v", c.name, c.got, c.want)
		}
	}
	want := []item{{0, api.Span{Lo: 1, Hi: 5}}, {2, api.Span{Lo: 3, Hi: 4}}, {2, api.Span{Lo: 7, Hi: 7}}, {3, api.Span{Lo: 0, Hi: end}}}
	if got := items(Cells(a)); !slices.Equal(got, want) {
		t.Errorf("Cells: %v", got)
	}
}

// P7.1: labels that are not there have no key, whichever number they are.
func TestHasOfNoLabel(t *testing.T) {
	whole := [][]api.Span{spans(0, end), spans(0, end)}
	for _, key := range []uint32{0, 1, 1 << 31, end} {
		for _, label := range []int{0, 1} {
			if !Has(whole, api.Cell{Label: label, Key: key}) {
				t.Errorf("%d of %d is there", key, label)
			}
		}
		for _, label := range []int{-1, -2, 2, 3, 16, 32, 64, 1 << 32, 1<<32 + 1, -1 << 32, math.MinInt, math.MaxInt} {
			if Has(whole, api.Cell{Label: label, Key: key}) || Has(nil, api.Cell{Label: label, Key: key}) {
				t.Errorf("%d of %d isn't there", key, label)
			}
		}
		if Has(nil, api.Cell{Key: key}) || Has([][]api.Span{nil}, api.Cell{Key: key}) {
			t.Errorf("%d is in nothing", key)
		}
	}
}

// P7.1: labels that one hasn't are empty in it, and empty ones at the end make no difference.
func TestUnlikeManyLabels(t *testing.T) {
	a := [][]api.Span{spans(1, 3), spans(0, 0)}
	for _, tail := range [][][]api.Span{nil, {nil}, {{}, nil}, {spans(2, 1)}, {nil, spans(end, 0), nil}, make([][]api.Span, 40)} {
		b := slices.Concat(a, tail)
		if !Same(a, b) || !Same(b, a) || !Within(a, b) || !Within(b, a) || !Empty(Minus(a, b)) || !Empty(Minus(b, a)) || !Empty(tail) || !Same(nil, tail) || !Same(tail, nil) || !Within(tail, nil) || Mask(b) != 3 {
			t.Errorf("%v behind it", tail)
		}
	}
	for _, tail := range [][][]api.Span{{spans(0, 0)}, {nil, spans(end, end)}, append(make([][]api.Span, 40), spans(7, 7))} {
		b := slices.Concat(a, tail)
		if Same(a, b) || Same(b, a) || !Within(a, b) || Within(b, a) || !Empty(Minus(a, b)) || Empty(Minus(b, a)) || Empty(tail) || Same(nil, tail) || Within(tail, nil) || !Within(nil, tail) {
			t.Errorf("%v behind it", tail)
		}
	}
	// The same set of another label is another area.
	if x, y := [][]api.Span{spans(1, 3)}, [][]api.Span{nil, spans(1, 3)}; Same(x, y) || Within(x, y) || Within(y, x) || !Empty(Meet(x, y)) {
		t.Errorf("%v and %v", x, y)
	}
}

// P7.1: one label alone that has a key, at each place; a mask tells of the first 32.
func TestOneLabelAlone(t *testing.T) {
	for labels := range 70 {
		for _, key := range []uint32{0, end} {
			a := append(make([][]api.Span, labels), spans(key, key), spans(5, 4))
			var mask uint32
			if labels < 32 {
				mask = 1 << labels
			}
			if Mask(a) != mask || Empty(a) || !Has(a, api.Cell{Label: labels, Key: key}) {
				t.Errorf("label %d: %b %v", labels, Mask(a), Empty(a))
			}
			if got := items(Cells(a)); len(got) != 1 || got[0] != (item{labels, api.Span{Lo: key, Hi: key}}) {
				t.Errorf("label %d: %v", labels, got)
			}
		}
	}
	full := slices.Repeat([][]api.Span{spans(0, end)}, 40)
	if Mask(full) != end || Mask(full[:16]) != 0xFFFF || Mask(full[:31]) != end>>1 || Mask(full[:32]) != end {
		t.Errorf("%b", Mask(full))
	}
}

// P7.1: nothing at all.
func TestNothing(t *testing.T) {
	for _, a := range [][][]api.Span{nil, {}, {nil}, {{}, nil}, {spans(1, 0)}, {spans(end, 0, 5, 4), nil}} {
		if !Empty(a) || Mask(a) != 0 || len(items(Cells(a))) != 0 {
			t.Errorf("%v: %v %b", a, Empty(a), Mask(a))
		}
		for _, b := range [][][]api.Span{nil, {nil, nil, nil}, {spans(9, 8)}} {
			if !Same(a, b) || !Within(a, b) || !Empty(Union(a, b)) || !Empty(Meet(a, b)) || !Empty(Minus(a, b)) {
				t.Errorf("%v and %v", a, b)
			}
		}
	}
}

// P7.2: the laws of an algebra, with no model beside them.
func TestAlgebra(t *testing.T) {
	d := drawer(7)
	for range 10000 {
		a, b, c := d.area(), d.area(), d.area()
		if !like(Union(a, b), Union(b, a)) || !like(Meet(a, b), Meet(b, a)) || !Same(Union(a, Meet(a, b)), a) || !Same(Meet(a, Union(a, b)), a) || !Same(Union(a, a), a) || !Same(Meet(a, a), a) {
			t.Fatalf("%v, %v: in either order, and absorbed", a, b)
		}
		if !like(Union(a, Union(b, c)), Union(Union(a, b), c)) || !like(Meet(a, Meet(b, c)), Meet(Meet(a, b), c)) || !like(Meet(a, Union(b, c)), Union(Meet(a, b), Meet(a, c))) {
			t.Fatalf("%v, %v, %v: grouped", a, b, c)
		}
		if !like(Minus(a, Union(b, c)), Meet(Minus(a, b), Minus(a, c))) || !like(Minus(a, Meet(b, c)), Union(Minus(a, b), Minus(a, c))) || !Empty(Meet(Minus(a, b), b)) || !Same(Union(Minus(a, b), Meet(a, b)), a) {
			t.Fatalf("%v, %v, %v: in one and not in another one", a, b, c)
		}
		if Within(a, b) != Same(Meet(a, b), a) || Within(a, b) != Empty(Minus(a, b)) || (Within(a, b) && Within(b, a)) != Same(a, b) || !Within(a, Union(a, b)) || !Within(Meet(a, b), b) {
			t.Fatalf("%v, %v: within", a, b)
		}
		if Mask(Union(a, b)) != Mask(a)|Mask(b) || Mask(Meet(a, b))&^(Mask(a)&Mask(b)) != 0 || len(a) <= 32 && Empty(a) != (Mask(a) == 0) {
			t.Fatalf("%v, %v: masks", a, b)
		}
		for _, cell := range []api.Cell{{Label: 0, Key: 0}, {Label: 1, Key: end}, {Label: 2, Key: 1 << 31}, {Label: 3, Key: 2}, {Label: 20, Key: end}, {Label: 33, Key: 0}, {Label: -1, Key: 0}} {
			x, y := Has(a, cell), Has(b, cell)
			if Has(Union(a, b), cell) != (x || y) || Has(Meet(a, b), cell) != (x && y) || Has(Minus(a, b), cell) != (x && !y) {
				t.Fatalf("%v, %v: %+v", a, b, cell)
			}
		}
	}
}

// P7.2: the spans that Cells tells are the area, and what is told of each label is a set.
func TestCellsAreTheArea(t *testing.T) {
	d := drawer(5)
	for range 5000 {
		a := d.area()
		back := make([][]api.Span, len(a))
		last := -1
		for i, s := range Cells(a) {
			if i < last || s.Hi < s.Lo {
				t.Fatalf("%v: %v of label %d, behind label %d", a, s, i, last)
			}
			last = i
			back[i] = append(back[i], s)
		}
		for _, set := range back {
			if !ivl.Right(set) {
				t.Fatalf("%v: %v is no set", a, set)
			}
		}
		if !Same(a, back) {
			t.Fatalf("%v: %v", a, back)
		}
	}
}

// Cells may be gone through again, within itself too, and stopped at any place.
func TestCellsAgainAndStopped(t *testing.T) {
	a := [][]api.Span{spans(9, 9, 1, 3), nil, spans(2, 1), spans(0, 0, end, end, 4, 5)}
	seq := Cells(a)
	want := modelFree(a)
	for range 3 {
		if got := items(seq); !slices.Equal(got, want) {
			t.Fatalf("%v, not %v", got, want)
		}
	}
	for stop := range len(want) {
		var got []item
		for i, s := range seq {
			if len(got) == stop {
				break
			}
			got = append(got, item{i, s})
		}
		if !slices.Equal(got, want[:stop]) {
			t.Errorf("stopped at %d: %v", stop, got)
		}
		// Whoever asks for no more isn't told of more, within a label and at its end.
		told := 0
		seq(func(int, api.Span) bool {
			told++
			return told <= stop
		})
		if told != stop+1 {
			t.Errorf("stopped at %d, told %d times", stop, told)
		}
	}
	var pairs int
	for range seq {
		if got := items(seq); !slices.Equal(got, want) {
			t.Fatalf("within itself: %v", got)
		}
		pairs++
	}
	if pairs != len(want) {
		t.Errorf("%d, not %d", pairs, len(want))
	}
}

// modelFree is what Cells must tell of an area whose keys are no blocks.
func modelFree(a [][]api.Span) []item {
	var list []item
	for i, label := range a {
		for _, s := range ivl.Make(label) {
			list = append(list, item{i, s})
		}
	}
	return list
}

// The area that Cells is given isn't kept: it may be written over behind the call, and between and within two goings.
func TestCellsKeepsNothing(t *testing.T) {
	a := [][]api.Span{spans(9, 9, 1, 3), spans(0, 0, 2, 2), spans(7, 7)}
	want := modelFree(a)
	seq := Cells(a)
	a[0][0], a[1][1] = api.Span{Lo: 100, Hi: 200}, api.Span{Lo: 5, Hi: 4}
	a[2] = nil
	if got := items(seq); !slices.Equal(got, want) {
		t.Errorf("%v, not %v", got, want)
	}
	b := [][]api.Span{spans(1, 3), spans(5, 6)}
	var got []item
	for i, s := range Cells(b) {
		got = append(got, item{i, s})
		b[1][0], b[0] = api.Span{Lo: 77, Hi: 78}, nil
	}
	if !slices.Equal(got, []item{{0, api.Span{Lo: 1, Hi: 3}}, {1, api.Span{Lo: 5, Hi: 6}}}) {
		t.Errorf("%v", got)
	}
}

// callAll calls everything that takes areas.
func callAll(a, b [][]api.Span) {
	Union(a, b)
	Meet(a, b)
	Minus(a, b)
	Within(a, b)
	Same(a, b)
	Has(a, api.Cell{Label: 1, Key: 4})
	Empty(a)
	Mask(a)
	items(Cells(a))
}

// The areas, and the memory behind their lists' lengths, stay as they are.
func TestNothingIsTurned(t *testing.T) {
	room := spans(9, 20, 1, 5, 3, 2, 30, 31)
	before := slices.Clone(room)
	for length := range len(room) + 1 {
		outer := [][]api.Span{room[:length], nil, room[:length/2], {}, room}
		kept := slices.Clone(outer)
		for labels := range len(outer) + 1 {
			callAll(outer[:labels], outer[:labels/2])
			callAll(outer[:labels/2], outer[:labels])
			Of(labels, 5, room[:length])
			if !slices.Equal(room, before) || !like(outer, kept) {
				t.Fatalf("%v was turned to %v, %v to %v", before, room, kept, outer)
			}
		}
	}
}

// wreck writes over an area and all its lists, their spare room too.
func wreck(a [][]api.Span) {
	for i := range a[:cap(a)] {
		list := a[:cap(a)][i]
		for j := range list[:cap(list)] {
			list[:cap(list)][j] = api.Span{Lo: 77, Hi: 7}
		}
	}
	for i := range a[:cap(a)] {
		a[:cap(a)][i] = spans(66, 6)
	}
}

// deepClone is an area of memory of its own.
func deepClone(a [][]api.Span) [][]api.Span {
	var b [][]api.Span
	for _, list := range a {
		b = append(b, slices.Clone(list))
	}
	return b
}

// What is answered may be written over: neither what was handed in turns, nor another answer.
func TestAnswersAreNew(t *testing.T) {
	list := spans(1, 5, 9, 20, 30, 31)
	a := [][]api.Span{list, nil, spans(3, 4, 1, 2), spans(0, end)}
	b := [][]api.Span{spans(5, 6)}
	listed, first, second := slices.Clone(list), deepClone(a), deepClone(b)
	for i, answer := range []func() [][]api.Span{
		func() [][]api.Span { return Of(16, end, list) },
		func() [][]api.Span { return Union(a, b) },
		func() [][]api.Span { return Union(nil, a) },
		func() [][]api.Span { return Union(a, nil) },
		func() [][]api.Span { return Meet(a, a) },
		func() [][]api.Span { return Meet(a, b) },
		func() [][]api.Span { return Minus(a, nil) },
		func() [][]api.Span { return Minus(a, b) },
	} {
		one, other := answer(), answer()
		want := deepClone(other)
		wreck(one)
		if !slices.Equal(list, listed) || !like(a, first) || !like(b, second) || !like(other, want) {
			t.Fatalf("case %d: %v %v %v %v", i, list, a, b, other)
		}
	}
}

// No two lists of one answer share memory, spare room neither.
func TestListsOfOneAnswer(t *testing.T) {
	list := spans(1, 5, 9, 20, 30, 31)
	same := [][]api.Span{list, list, list, nil, list}
	for i, answer := range [][][]api.Span{Of(16, end, list), Union(same, nil), Union(same, same), Meet(same, same), Minus(same, nil)} {
		want := deepClone(answer)
		for label := range answer {
			room := answer[label][:cap(answer[label])]
			for j := range room {
				room[j] = api.Span{Lo: uint32(label), Hi: uint32(j)}
			}
			if !like(answer[label+1:], want[label+1:]) {
				t.Fatalf("case %d: label %d's list is another one's, too", i, label)
			}
		}
		for label := range answer {
			for j, s := range answer[label][:cap(answer[label])] {
				if s != (api.Span{Lo: uint32(label), Hi: uint32(j)}) {
					t.Fatalf("case %d: label %d's room is another one's, too", i, label)
				}
			}
		}
	}
}

// P7.1: more labels than are declared anywhere, and many spans.
func TestManyLabelsAndSpans(t *testing.T) {
	const many = 100000
	a := make([][]api.Span, many)
	a[many-1] = spans(end, end)
	b := Union(a, nil)
	if len(b) != many || !Same(a, b) || !Within(b, a) || Empty(b) || Mask(b) != 0 || !Empty(Minus(a, b)) || len(Meet(a, nil)) != many || !Has(b, api.Cell{Label: many - 1, Key: end}) {
		t.Error("many labels")
	}
	var list []api.Span
	for i := range uint32(many) {
		list = append(list, api.Span{Lo: end - 4*i - 1, Hi: end - 4*i})
	}
	c := Of(16, 0x8001, list)
	if len(items(Cells(c))) != 2*many || !Same(c, Of(16, 0x8001, ivl.Make(list))) || Mask(c) != 0x8001 {
		t.Error("many spans")
	}
}
