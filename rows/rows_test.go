package rows

import (
	"math"
	"slices"
	"testing"

	"clerestory/api"
)

const end = math.MaxUint32

// drawer draws numbers by a rule, the same ones each time.
type drawer uint64

func (d *drawer) below(n int) int {
	*d = *d*6364136223846793005 + 1442695040888963407
	return int(uint64(*d) >> 33 % uint64(n))
}

// cell is a cell: most of them from a few bunches, so that they come again.
func (d *drawer) cell() api.Cell {
	labels := []int{math.MinInt, -1, 0, 1, 2, 15, 16, 31, 32, 40, math.MaxInt}
	return api.Cell{Label: labels[d.below(len(labels))], Key: d.key()}
}

func (d *drawer) key() uint32 {
	switch d.below(4) {
	case 0:
		return uint32(end - d.below(4))
	case 1:
		return uint32(1<<31 - 2 + d.below(4))
	}
	return uint32(d.below(8))
}

// area is an area of any number of labels, whose spans may be empty, meet, and stand in any order.
func (d *drawer) area() [][]api.Span {
	a := make([][]api.Span, d.below(50))
	for i := range a {
		for range d.below(4) {
			a[i] = append(a[i], api.Span{Lo: d.key(), Hi: d.key()})
		}
	}
	return a
}

// item is what All tells at once.
type item struct {
	cell    api.Cell
	version int
}

// model is what rows must be: all puts and drops, one behind the other; a drop has version 0.
type model []item

func (m *model) put(c api.Cell) int {
	version := 1
	for _, x := range *m {
		if x.version > 0 {
			version++
		}
	}
	*m = append(*m, item{c, version})
	return version
}

func (m *model) drop(c api.Cell) bool {
	_, there := m.version(c)
	*m = append(*m, item{cell: c})
	return there
}

// version is that of the last put of a cell, unless a drop is behind it.
func (m *model) version(c api.Cell) (int, bool) {
	for _, x := range slices.Backward(*m) {
		if x.cell == c {
			return x.version, x.version > 0
		}
	}
	return 0, false
}

// items is all that are there.
func (m *model) items() []item {
	var list []item
	for _, x := range *m {
		if v, there := m.version(x.cell); there && v == x.version {
			list = append(list, x)
		}
	}
	return list
}

// ever is all cells that were ever put.
func (m *model) ever() []api.Cell {
	var list []api.Cell
	for _, x := range *m {
		if x.version > 0 && !slices.Contains(list, x.cell) {
			list = append(list, x.cell)
		}
	}
	return list
}

// in is the versions of those whose key is in one of their label's spans.
func (m *model) in(a [][]api.Span) []int {
	var list []int
	for _, x := range m.items() {
		for label, spans := range a {
			if label == x.cell.Label && slices.ContainsFunc(spans, func(s api.Span) bool { return s.Lo <= x.cell.Key && x.cell.Key <= s.Hi }) {
				list = append(list, x.version)
			}
		}
	}
	return list
}

func listed(r *Rows) []item {
	var list []item
	for c, v := range r.All() {
		list = append(list, item{c, v})
	}
	return list
}

// put puts cells, one by one.
func put(r *Rows, cells ...api.Cell) {
	for _, c := range cells {
		r.Put(c)
	}
}

// whole is the area of all keys of so many labels.
func whole(labels int) [][]api.Span {
	a := make([][]api.Span, labels)
	for i := range a {
		a[i] = []api.Span{{Lo: 0, Hi: end}}
	}
	return a
}

// same holds rows against their model, and against cells that may not be there.
func same(t *testing.T, r *Rows, m *model, cells ...api.Cell) {
	t.Helper()
	items, ever := m.items(), m.ever()
	if got := listed(r); !slices.Equal(got, items) {
		t.Fatalf("after %v: %v, want %v", *m, got, items)
	}
	if r.Live() != len(items) || r.Ever() != len(ever) {
		t.Fatalf("after %v: %d of %d, want %d of %d", *m, r.Live(), r.Ever(), len(items), len(ever))
	}
	for _, c := range slices.Concat(ever, cells) {
		v, there := r.Version(c)
		want, wanted := m.version(c)
		if v != want || there != wanted || r.Seen(c) != slices.Contains(ever, c) {
			t.Fatalf("after %v: %v: %d, %v, %v, want %d, %v", *m, c, v, there, r.Seen(c), want, wanted)
		}
	}
}

// play makes one call that turns something, of rows and of their model.
func play(t *testing.T, r *Rows, m *model, drops bool, c api.Cell) {
	t.Helper()
	if drops {
		if was, want := r.Drop(c), m.drop(c); was != want {
			t.Fatalf("after %v: %v, want %v", *m, was, want)
		}
		return
	}
	if v, want := r.Put(c), m.put(c); v != want {
		t.Fatalf("after %v: version %d, want %d", *m, v, want)
	}
}

// P11.1: the zero Rows has none, whatever it is asked, and in whichever order.
func TestNothing(t *testing.T) {
	var r Rows
	cells := []api.Cell{{}, {Label: 1, Key: 1}, {Label: -1}, {Label: math.MinInt, Key: end}, {Label: math.MaxInt, Key: end}}
	for range 2 {
		same(t, &r, &model{}, cells...)
		for _, a := range [][][]api.Span{nil, {}, {nil}, {{}}, whole(1), whole(40)} {
			if in := r.In(a); len(in) != 0 {
				t.Errorf("in %v: %v", a, in)
			}
		}
		for _, c := range cells {
			if r.Drop(c) {
				t.Errorf("%v was there", c)
			}
		}
	}
	if r.Put(cells[0]) != 1 {
		t.Error("asking and dropping makes no versions")
	}
}

// P11.1: the chapter's example, and what goes on from it.
func TestByHand(t *testing.T) {
	var r Rows
	a, b := api.Cell{Label: 1, Key: 7}, api.Cell{Label: 2, Key: 7}
	for i, c := range []api.Cell{a, b, a} {
		if v := r.Put(c); v != i+1 {
			t.Errorf("put %d: version %d", i+1, v)
		}
	}
	if v, there := r.Version(a); v != 3 || !there {
		t.Errorf("%d, %v", v, there)
	}
	if got := listed(&r); !slices.Equal(got, []item{{b, 2}, {a, 3}}) || r.Live() != 2 || r.Ever() != 2 {
		t.Errorf("%v", got)
	}
	if !r.Drop(a) || r.Drop(a) || !r.Seen(a) || r.Live() != 1 || r.Ever() != 2 {
		t.Error("dropped once")
	}
	if v, there := r.Version(a); v != 0 || there {
		t.Errorf("dropped: %d, %v", v, there)
	}
	if got := listed(&r); !slices.Equal(got, []item{{b, 2}}) {
		t.Errorf("dropped: %v", got)
	}
	if v := r.Put(a); v != 4 || !r.Drop(b) {
		t.Errorf("put anew: %d", v)
	}
	if got := listed(&r); !slices.Equal(got, []item{{a, 4}}) || r.Live() != 1 || r.Ever() != 2 {
		t.Errorf("put anew: %v", got)
	}
}

// P11.1: a cell is a label's number and a key, whatever these are: each one is a row of its own.
func TestAnyCell(t *testing.T) {
	var r Rows
	var m model
	var cells []api.Cell
	for _, label := range []int{math.MinInt, -1, 0, 1, 15, 16, 31, 32, 1 << 32, math.MaxInt} {
		for _, key := range []uint32{0, 1, 1<<31 - 1, 1 << 31, end} {
			cells = append(cells, api.Cell{Label: label, Key: key})
		}
	}
	for _, c := range cells {
		same(t, &r, &m, cells...)
		play(t, &r, &m, false, c)
	}
	for _, c := range cells {
		same(t, &r, &m, cells...)
		play(t, &r, &m, true, c)
	}
	same(t, &r, &m, cells...)
	if r.Live() != 0 || r.Ever() != len(cells) {
		t.Errorf("%d of %d", r.Live(), r.Ever())
	}
}

// P11.1: a drop of what isn't there turns nothing: no version goes, and nothing is seen by it.
func TestDropOfNone(t *testing.T) {
	var r Rows
	c, other := api.Cell{Key: 3}, api.Cell{Key: 4}
	put(&r, c)
	for range 3 {
		if r.Drop(other) || r.Seen(other) || r.Ever() != 1 || r.Live() != 1 {
			t.Error("it was never there")
		}
	}
	if v := r.Put(other); v != 2 {
		t.Errorf("version %d", v)
	}
}

// P11.1: the rows in an area, by hand: no spans, empty ones, one key, all keys, and more labels than there are.
func TestInByHand(t *testing.T) {
	var r Rows
	put(&r,
		api.Cell{Label: 1, Key: end},
		api.Cell{Label: 0, Key: 0},
		api.Cell{Label: 1, Key: 5},
		api.Cell{Label: -1, Key: 5},
		api.Cell{Label: 0, Key: 5},
		api.Cell{Label: 40, Key: 5},
		api.Cell{Label: 2, Key: 9},
		api.Cell{Label: 0, Key: 5},
	)
	r.Drop(api.Cell{Label: 2, Key: 9})
	most := make([][]api.Span, 41)
	most[40] = []api.Span{{Lo: 5, Hi: 5}}
	for i, c := range []struct {
		a    [][]api.Span
		want []int
	}{
		{nil, nil},
		{[][]api.Span{}, nil},
		{[][]api.Span{nil, {}, nil}, nil},
		{[][]api.Span{{{Lo: 1, Hi: 0}}, {{Lo: end, Hi: 0}, {Lo: 6, Hi: 5}}}, nil},
		{[][]api.Span{{{Lo: 0, Hi: 0}}}, []int{2}},
		{[][]api.Span{{{Lo: 5, Hi: 5}}}, []int{8}},
		{[][]api.Span{{{Lo: 1, Hi: 4}, {Lo: 6, Hi: end}}}, nil},
		{[][]api.Span{nil, {{Lo: end, Hi: end}}}, []int{1}},
		{[][]api.Span{nil, {{Lo: 5, Hi: end - 1}}}, []int{3}},
		{[][]api.Span{nil, {{Lo: 5, Hi: end}}}, []int{1, 3}},
		{[][]api.Span{{{Lo: 0, Hi: end}}}, []int{2, 8}},
		{whole(2), []int{1, 2, 3, 8}},
		{whole(3), []int{1, 2, 3, 8}},
		{whole(40), []int{1, 2, 3, 8}},
		{whole(41), []int{1, 2, 3, 6, 8}},
		{most, []int{6}},
		{[][]api.Span{{{Lo: 5, Hi: 9}, {Lo: 0, Hi: 5}, {Lo: 5, Hi: 5}, {Lo: 9, Hi: 5}}}, []int{2, 8}},
	} {
		if in := r.In(c.a); !slices.Equal(in, c.want) {
			t.Errorf("case %d: %v, want %v", i, in, c.want)
		}
	}
}

// P2: an area is neither turned nor kept, and what In answers is the caller's own, spare room too.
func TestInIsOwn(t *testing.T) {
	var r Rows
	for key := range uint32(9) {
		put(&r, api.Cell{Label: int(key) % 2, Key: key})
	}
	spans := []api.Span{{Lo: 9, Hi: 4}, {Lo: 4, Hi: 8}, {Lo: 0, Hi: 4}, {Lo: 7, Hi: 7}}
	most := [][]api.Span{spans[:3], {{Lo: 1, Hi: 1}}, {{Lo: 3, Hi: 2}}}
	was := slices.Clone(spans)
	all := [][]api.Span{was[:3], {{Lo: 1, Hi: 1}}, {{Lo: 3, Hi: 2}}}
	a := most[:2]
	want := []int{1, 2, 3, 5, 7, 9}
	first := r.In(a)
	if !slices.Equal(first, want) {
		t.Errorf("%v", first)
	}
	if !slices.Equal(spans, was) || !slices.EqualFunc(most, all, slices.Equal) {
		t.Errorf("the area is %v, with %v", most, spans)
	}
	first = first[:cap(first)]
	for i := range first {
		first[i] = -1
	}
	second := r.In(a)
	if !slices.Equal(second, want) {
		t.Errorf("written over: %v", second)
	}
	spans[1], a[1] = api.Span{}, nil
	put(&r, api.Cell{Key: 0})
	if !slices.Equal(second, want) {
		t.Errorf("turned behind the call: %v", second)
	}
}

// P11.1: whatever order maps are gone through in, versions rise.
func TestSorted(t *testing.T) {
	var r Rows
	d := drawer(5)
	for range 600 {
		put(&r, api.Cell{Label: d.below(3), Key: uint32(d.below(400))})
	}
	list, in := listed(&r), r.In(whole(3))
	if len(list) != r.Live() || len(in) != r.Live() {
		t.Fatalf("%d and %d of %d", len(list), len(in), r.Live())
	}
	for i := range list {
		if list[i].version != in[i] || i > 0 && list[i-1].version >= list[i].version {
			t.Fatalf("at %d: %v, %d", i, list[i], in[i])
		}
	}
	for range 20 {
		if !slices.Equal(listed(&r), list) || !slices.Equal(r.In(whole(3)), in) {
			t.Fatal("asked again, it is told otherwise")
		}
	}
}

// P11.1: All may be stopped at any place, gone through again, and within itself.
func TestAllStops(t *testing.T) {
	var r Rows
	for key := range uint32(6) {
		put(&r, api.Cell{Label: int(key % 3), Key: 6 - key})
	}
	r.Drop(api.Cell{Label: 1, Key: 5})
	want := []int{1, 3, 4, 5, 6}
	all := r.All()
	for stop := 1; stop <= len(want); stop++ {
		var got []int
		for _, v := range all {
			got = append(got, v)
			if len(got) == stop {
				break
			}
		}
		if !slices.Equal(got, want[:stop]) {
			t.Errorf("stopped at %d: %v", stop, got)
		}
	}
	pairs := 0
	for range all {
		for range all {
			pairs++
		}
	}
	if pairs != len(want)*len(want) {
		t.Errorf("%d pairs", pairs)
	}
}

// P11.1: All tells of those that are there when going through begins, each time anew; it ends, whatever is put on the way.
func TestAllOnTheWay(t *testing.T) {
	var r Rows
	a, b, c, d := api.Cell{Key: 1}, api.Cell{Key: 2}, api.Cell{Key: 3}, api.Cell{Key: 4}
	all := r.All()
	put(&r, a, b, c)
	var got []item
	for x, v := range all {
		got = append(got, item{x, v})
		r.Put(x)
		r.Put(d)
	}
	if want := []item{{a, 1}, {b, 2}, {c, 3}}; !slices.Equal(got, want) {
		t.Errorf("%v, want %v", got, want)
	}
	got = nil
	for x, v := range all {
		got = append(got, item{x, v})
		if !r.Drop(x) {
			t.Errorf("%v isn't there", x)
		}
	}
	if want := []item{{a, 4}, {b, 6}, {c, 8}, {d, 9}}; !slices.Equal(got, want) {
		t.Errorf("%v, want %v", got, want)
	}
	if got := listed(&r); got != nil || r.Live() != 0 || r.Ever() != 4 {
		t.Errorf("%v", got)
	}
}

// P11.1, P11.2: every order of six puts and drops of three cells.
func TestEveryOrder(t *testing.T) {
	const calls = 6
	cells := []api.Cell{{Label: 0, Key: 5}, {Label: 1, Key: 5}, {Label: 0, Key: end}}
	areas := [][][]api.Span{nil, whole(1), whole(2), {{{Lo: 5, Hi: 5}}, {{Lo: 9, Hi: 3}}}, {nil, {{Lo: 0, Hi: 5}}}}
	orders := 1
	for range calls {
		orders *= 2 * len(cells)
	}
	for order := range orders {
		var r Rows
		var m model
		for i, left := 0, order; i < calls; i, left = i+1, left/(2*len(cells)) {
			step := left % (2 * len(cells))
			play(t, &r, &m, step >= len(cells), cells[step%len(cells)])
		}
		same(t, &r, &m, cells...)
		for _, a := range areas {
			if in, want := r.In(a), m.in(a); !slices.Equal(in, want) {
				t.Fatalf("after %v: in %v: %v, want %v", m, a, in, want)
			}
		}
	}
}

// P11.1, P11.2: long runs of drawn calls.
func TestDrawnOrders(t *testing.T) {
	d := drawer(11)
	for range 12 {
		var r Rows
		var m model
		for range 250 {
			play(t, &r, &m, d.below(3) == 0, d.cell())
			if d.below(8) == 0 {
				same(t, &r, &m, d.cell(), d.cell())
			}
			a := d.area()
			if in, want := r.In(a), m.in(a); !slices.Equal(in, want) {
				t.Fatalf("in %v: %v, want %v", a, in, want)
			}
		}
		same(t, &r, &m)
	}
}

// P11.2: no version comes twice, whatever is put and dropped, and none goes with its row.
func TestNoVersionTwice(t *testing.T) {
	var r Rows
	d := drawer(29)
	for want := 1; want <= 20000; want++ {
		for range d.below(4) {
			r.Drop(d.cell())
		}
		c := d.cell()
		if v := r.Put(c); v != want {
			t.Fatalf("version %d, want %d", v, want)
		}
		if v, there := r.Version(c); v != want || !there || !r.Seen(c) {
			t.Fatalf("%d, %v, want %d", v, there, want)
		}
	}
}

// P11.1: there may be more rows than a store takes.
func TestGreat(t *testing.T) {
	const count = 3 * api.MaxRows
	var r Rows
	for key := range uint32(count) {
		put(&r, api.Cell{Label: 3, Key: key})
	}
	for key := uint32(0); key < count; key += 2 {
		r.Drop(api.Cell{Label: 3, Key: key})
	}
	if r.Live() != count/2 || r.Ever() != count || len(listed(&r)) != count/2 {
		t.Errorf("%d of %d", r.Live(), r.Ever())
	}
	in := r.In([][]api.Span{nil, nil, nil, {{Lo: 1, Hi: count - 2}}})
	if len(in) != count/2-1 || in[0] != 2 || in[len(in)-1] != count-2 {
		t.Errorf("%d of them", len(in))
	}
}

// P2: two Rows have nothing in common.
func TestApart(t *testing.T) {
	var a, b Rows
	put(&a, api.Cell{Key: 1}, api.Cell{Key: 2})
	if b.Put(api.Cell{Key: 2}) != 1 || b.Drop(api.Cell{Key: 1}) || b.Seen(api.Cell{Key: 1}) || a.Live() != 2 || b.Live() != 1 {
		t.Error("one has what the other one was given")
	}
}
