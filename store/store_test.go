package store

import (
	"math"
	"slices"
	"testing"

	"clerestory/agg"
	"clerestory/api"
)

const end = math.MaxUint32

// drawer draws numbers by a rule, the same ones each time.
type drawer uint64

func (d *drawer) below(n int) int {
	*d = *d*6364136223846793005 + 1442695040888963407
	return int(uint64(*d) >> 33 % uint64(n))
}

// key is a key: most of them from a few bunches, so that they come again.
func (d *drawer) key() uint32 {
	switch d.below(5) {
	case 0:
		return uint32(end - d.below(4))
	case 1:
		return uint32(1<<31 - 2 + d.below(4))
	case 2:
		return uint32(1) << d.below(32)
	}
	return uint32(d.below(8))
}

// cell is a cell of one of so many labels, or now and then of none.
func (d *drawer) cell(labels int) api.Cell {
	return api.Cell{Label: d.below(labels+2) - 1, Key: d.key()}
}

func (d *drawer) value() int64 {
	edges := []int64{-1 << 20, 1 << 20, -1<<20 - 1, 1<<20 + 1, math.MinInt64, math.MaxInt64, 0}
	if d.below(5) == 0 {
		return edges[d.below(len(edges))]
	}
	return int64(d.below(2001) - 1000)
}

// area is an area of any number of labels, whose spans may be empty, meet, and stand in any order.
func (d *drawer) area() [][]api.Span {
	a := make([][]api.Span, d.below(20))
	for i := range a {
		for range d.below(4) {
			a[i] = append(a[i], api.Span{Lo: d.key(), Hi: d.key()})
		}
	}
	return a
}

// row is what a model has of a cell that was ever put; version 0: it isn't there any more.
type row struct {
	cell    api.Cell
	value   int64
	version int
}

// start is a beginning of a label's keys: how many bits, and these.
type start struct {
	label, bits int
	key         uint32
}

// model is what a store must be: its cells, by their last versions, and the beginnings of all keys that were ever put.
type model struct {
	labels, cap, last int
	rows              []row
	starts            map[start]struct{}
}

func newModel(labels, cap int) *model {
	return &model{labels: labels, cap: cap, starts: map[start]struct{}{}}
}

func (m *model) place(c api.Cell) int {
	return slices.IndexFunc(m.rows, func(x row) bool { return x.cell == c })
}

func (m *model) wrong(label int) bool {
	return label < 0 || label > m.labels-1
}

func (m *model) put(c api.Cell, value int64) (int, api.Errno) {
	if m.wrong(c.Label) {
		return 0, api.ErrLabel
	}
	if value < -1048576 || value > 1048576 {
		return 0, api.ErrValue
	}
	i := m.place(c)
	if i < 0 && len(m.rows) == m.cap {
		return 0, api.ErrFull
	}
	if i >= 0 {
		m.rows = slices.Delete(m.rows, i, i+1)
	}
	m.last++
	m.rows = append(m.rows, row{c, value, m.last})
	for bits := 0; bits <= 32; bits++ {
		m.starts[start{c.Label, bits, uint32(uint64(c.Key) >> (32 - bits))}] = struct{}{}
	}
	return m.last, api.OK
}

func (m *model) drop(c api.Cell) (bool, api.Errno) {
	if m.wrong(c.Label) {
		return false, api.ErrLabel
	}
	i := m.place(c)
	was := i >= 0 && m.rows[i].version > 0
	if was {
		m.rows[i].version = 0
	}
	return was, api.OK
}

// there is the rows that are there and of which something holds, by their versions.
func (m *model) there(holds func(c api.Cell) bool) []row {
	var list []row
	for _, x := range m.rows {
		if x.version > 0 && holds(x.cell) {
			list = append(list, x)
		}
	}
	return list
}

// in is the rows whose key is in one of their label's spans.
func (m *model) in(a [][]api.Span) []row {
	return m.there(func(c api.Cell) bool {
		return c.Label < len(a) && slices.ContainsFunc(a[c.Label], func(s api.Span) bool { return s.Lo <= c.Key && c.Key <= s.Hi })
	})
}

func cells(list []row) []api.Cell {
	var cells []api.Cell
	for _, x := range list {
		cells = append(cells, x.cell)
	}
	return cells
}

func versions(list []row) []int {
	var versions []int
	for _, x := range list {
		versions = append(versions, x.version)
	}
	return versions
}

func told(list []row) api.Agg {
	var values []int64
	for _, x := range list {
		values = append(values, x.value)
	}
	return agg.Of(values)
}

// whole is the area of all keys of so many labels.
func whole(labels int) [][]api.Span {
	a := make([][]api.Span, labels)
	for i := range a {
		a[i] = []api.Span{{Lo: 0, Hi: end}}
	}
	return a
}

// made is a store that must come.
func made(t *testing.T, labels, cap int) *Store {
	t.Helper()
	s, e := New(labels, cap)
	if s == nil || e != api.OK {
		t.Fatalf("New(%d, %d): %v, %d", labels, cap, s, e)
	}
	return s
}

// put puts what must be put.
func put(t *testing.T, s *Store, c api.Cell, value int64) {
	t.Helper()
	if v, e := s.Put(c, value); v < 1 || e != api.OK {
		t.Fatalf("Put(%v, %d): %d, %d", c, value, v, e)
	}
}

// same holds a store against its model, and against cells that may not be there.
func same(t *testing.T, s *Store, m *model, more ...api.Cell) {
	t.Helper()
	list := m.there(func(api.Cell) bool { return true })
	if got := slices.Collect(s.All()); !slices.Equal(got, cells(list)) {
		t.Fatalf("%v, want %v", got, cells(list))
	}
	if s.Live() != len(list) || s.Ever() != len(m.rows) || s.Nodes() != len(m.starts) {
		t.Fatalf("%d of %d with %d nodes, want %d of %d with %d", s.Live(), s.Ever(), s.Nodes(), len(list), len(m.rows), len(m.starts))
	}
	if s.Ever() > m.cap || s.Nodes() > 33*s.Ever() {
		t.Fatalf("%d cells with %d nodes, of at most %d", s.Ever(), s.Nodes(), m.cap)
	}
	for _, c := range slices.Concat(cells(m.rows), more) {
		var want row
		if i := m.place(c); i >= 0 && m.rows[i].version > 0 {
			want = m.rows[i]
		}
		if v, there := s.Get(c); v != want.value || there != (want.version > 0) {
			t.Fatalf("Get(%v): %d, %v, want %+v", c, v, there, want)
		}
	}
}

// sameIn holds what is told of an area against a model.
func sameIn(t *testing.T, s *Store, m *model, a [][]api.Span) {
	t.Helper()
	list := m.in(a)
	if got := s.Fold(a); got != told(list) {
		t.Fatalf("in %v: %+v, want of %v", a, got, list)
	}
	if got := s.In(a); !slices.Equal(got, versions(list)) {
		t.Fatalf("in %v: %v, want of %v", a, got, list)
	}
}

// playPut and playDrop make one call of a store and of its model.
func playPut(t *testing.T, s *Store, m *model, c api.Cell, value int64) {
	t.Helper()
	version, e := s.Put(c, value)
	if want, wanted := m.put(c, value); version != want || e != wanted {
		t.Fatalf("Put(%v, %d): %d, %d, want %d, %d", c, value, version, e, want, wanted)
	}
}

func playDrop(t *testing.T, s *Store, m *model, c api.Cell) {
	t.Helper()
	was, e := s.Drop(c)
	if want, wanted := m.drop(c); was != want || e != wanted {
		t.Fatalf("Drop(%v): %v, %d, want %v, %d", c, was, e, want, wanted)
	}
}

// P12.1: labels and caps at both ends of what may be, and beyond them.
func TestLimits(t *testing.T) {
	for _, labels := range []int{1, 2, 15, 16} {
		for _, cap := range []int{1, 2, 4095, 4096} {
			same(t, made(t, labels, cap), newModel(labels, cap), api.Cell{}, api.Cell{Label: labels})
		}
	}
	for _, c := range [][2]int{
		{0, 1}, {0, 4096}, {-1, 1}, {17, 1}, {17, 4096}, {math.MinInt, 1}, {math.MaxInt, 1}, {1 << 32, 1}, {1<<32 + 1, 1},
		{1, 0}, {16, 0}, {1, -1}, {1, 4097}, {16, 4097}, {1, math.MinInt}, {1, math.MaxInt}, {1, 1 << 32}, {1, 1<<32 + 1},
		{0, 0}, {17, 4097},
	} {
		if s, e := New(c[0], c[1]); s != nil || e != api.ErrArg {
			t.Errorf("New(%d, %d): %v, %d", c[0], c[1], s, e)
		}
	}
}

// P12.1: a store in which nothing was put tells of nothing, whatever it is asked; one that New didn't make has no labels.
func TestNothing(t *testing.T) {
	for _, s := range []*Store{made(t, 3, 5), made(t, 16, 4096), {}} {
		for _, c := range []api.Cell{{}, {Label: 2, Key: end}, {Label: -1}, {Label: 16}, {Label: math.MinInt}, {Label: math.MaxInt}} {
			if v, there := s.Get(c); v != 0 || there {
				t.Errorf("%v: %d, %v", c, v, there)
			}
			if was, _ := s.Drop(c); was {
				t.Errorf("%v was there", c)
			}
		}
		for _, a := range [][][]api.Span{nil, {}, {nil}, whole(1), whole(3), whole(40)} {
			if s.Fold(a) != (api.Agg{}) || len(s.In(a)) != 0 {
				t.Errorf("%v: %+v", a, s.Fold(a))
			}
		}
		if got := slices.Collect(s.All()); got != nil || s.Live() != 0 || s.Ever() != 0 || s.Nodes() != 0 {
			t.Errorf("%v, %d nodes", got, s.Nodes())
		}
	}
	var zero Store
	if v, e := zero.Put(api.Cell{}, 1); v != 0 || e != api.ErrLabel {
		t.Errorf("%d, %d", v, e)
	}
}

// P12.1: labels below 0, of 0, the last one, and beyond it.
func TestLabels(t *testing.T) {
	for _, labels := range []int{1, 2, 15, 16} {
		s, m := made(t, labels, 9), newModel(labels, 9)
		put(t, s, api.Cell{Label: labels - 1, Key: 7}, 4)
		m.put(api.Cell{Label: labels - 1, Key: 7}, 4)
		for _, label := range []int{-1, -labels, labels, labels + 1, 17, 32, 1 << 32, math.MinInt, math.MaxInt} {
			c := api.Cell{Label: label, Key: 7}
			if v, e := s.Put(c, 1); v != 0 || e != api.ErrLabel {
				t.Errorf("Put(%v): %d, %d", c, v, e)
			}
			if was, e := s.Drop(c); was || e != api.ErrLabel {
				t.Errorf("Drop(%v): %v, %d", c, was, e)
			}
			same(t, s, m, c)
		}
		playPut(t, s, m, api.Cell{Label: 0, Key: 7}, 5)
		playDrop(t, s, m, api.Cell{Label: labels - 1, Key: 7})
		same(t, s, m)
	}
}

// P12.1: values from -2^20 to 2^20 are kept; those beyond turn nothing.
func TestValues(t *testing.T) {
	c := api.Cell{Label: 1, Key: 3}
	s, m := made(t, 2, 1), newModel(2, 1)
	for _, v := range []int64{1<<20 + 1, -1<<20 - 1, math.MinInt64, math.MaxInt64, 1 << 32, -1 << 32} {
		if version, e := s.Put(c, v); version != 0 || e != api.ErrValue {
			t.Errorf("%d: %d, %d", v, version, e)
		}
		same(t, s, m, c)
	}
	for i, v := range []int64{-1 << 20, 1 << 20, 0, -1, 1, 1<<20 - 1, -1<<20 + 1} {
		if version, e := s.Put(c, v); version != i+1 || e != api.OK {
			t.Errorf("%d: %d, %d", v, version, e)
		}
		m.put(c, v)
		if version, e := s.Put(c, 1<<20+1); version != 0 || e != api.ErrValue {
			t.Errorf("beyond, behind %d: %d, %d", v, version, e)
		}
		same(t, s, m)
		sameIn(t, s, m, whole(2))
	}
}

// P12.1: the error that is named first is answered, and with each of them nothing is turned.
func TestErrorsInOrder(t *testing.T) {
	s, m := made(t, 2, 1), newModel(2, 1)
	playPut(t, s, m, api.Cell{Label: 1, Key: 1}, 5)
	for _, c := range []struct {
		cell  api.Cell
		value int64
		want  api.Errno
	}{
		{api.Cell{Label: 2, Key: 1}, 1 << 21, api.ErrLabel},
		{api.Cell{Label: -1, Key: 1}, -1 << 21, api.ErrLabel},
		{api.Cell{Label: 2, Key: 1}, 1, api.ErrLabel},
		{api.Cell{Label: 0, Key: 1}, 1 << 21, api.ErrValue},
		{api.Cell{Label: 1, Key: 1}, 1 << 21, api.ErrValue},
		{api.Cell{Label: 0, Key: 1}, 1, api.ErrFull},
		{api.Cell{Label: 1, Key: 2}, 1, api.ErrFull},
	} {
		if v, e := s.Put(c.cell, c.value); v != 0 || e != c.want {
			t.Errorf("Put(%v, %d): %d, %d, want %d", c.cell, c.value, v, e, c.want)
		}
		same(t, s, m, c.cell)
		sameIn(t, s, m, whole(2))
	}
	if v, e := s.Put(api.Cell{Label: 1, Key: 1}, 6); v != 2 || e != api.OK {
		t.Errorf("what is refused has no version: %d, %d", v, e)
	}
}

// P12.1: a full store takes no new cell, even when none of its rows is there; a cell that was put before may be put on and on.
func TestFull(t *testing.T) {
	for _, cap := range []int{1, 2, 3, 20} {
		s, m := made(t, 3, cap), newModel(3, cap)
		for i := range cap {
			playPut(t, s, m, api.Cell{Label: i % 3, Key: uint32(i)}, int64(i))
		}
		other := []api.Cell{{Label: 0, Key: end}, {Label: 1, Key: 0}, {Label: 2, Key: uint32(cap)}}
		refused := func() {
			t.Helper()
			for _, c := range other {
				if v, e := s.Put(c, 1); v != 0 || e != api.ErrFull {
					t.Errorf("cap %d, Put(%v): %d, %d", cap, c, v, e)
				}
			}
			same(t, s, m, other...)
			sameIn(t, s, m, whole(3))
		}
		refused()
		for i := range cap {
			playDrop(t, s, m, api.Cell{Label: i % 3, Key: uint32(i)})
			refused()
		}
		for i := range cap {
			playPut(t, s, m, api.Cell{Label: i % 3, Key: uint32(i)}, int64(-i))
			playPut(t, s, m, api.Cell{Label: i % 3, Key: uint32(i)}, int64(9*i))
			refused()
		}
	}
}

// P12.1: the chapter's example, and one row that is put again, dropped, dropped twice, and put anew.
func TestByHand(t *testing.T) {
	s := made(t, 2, 3)
	a, b := api.Cell{Label: 0, Key: 4}, api.Cell{Label: 1, Key: 4}
	put(t, s, a, 5)
	put(t, s, b, 7)
	if got := s.Fold(whole(2)); got != (api.Agg{Count: 2, Sum: 12, Min: 5, Max: 7}) || !slices.Equal(s.In(whole(2)), []int{1, 2}) {
		t.Errorf("%+v", got)
	}
	put(t, s, a, -2)
	if got := s.Fold(whole(2)); got != (api.Agg{Count: 2, Sum: 5, Min: -2, Max: 7}) || !slices.Equal(s.In(whole(2)), []int{2, 3}) {
		t.Errorf("put again: %+v", got)
	}
	if got := slices.Collect(s.All()); !slices.Equal(got, []api.Cell{b, a}) || s.Live() != 2 || s.Ever() != 2 || s.Nodes() != 66 {
		t.Errorf("put again: %v, %d nodes", got, s.Nodes())
	}
	for _, want := range []bool{true, false, false} {
		if was, e := s.Drop(a); was != want || e != api.OK {
			t.Errorf("Drop: %v, %d", was, e)
		}
		if v, there := s.Get(a); v != 0 || there || s.Live() != 1 || s.Ever() != 2 || s.Nodes() != 66 {
			t.Errorf("dropped: %d, %v", v, there)
		}
		if got := s.Fold(whole(2)); got != agg.One(7) || !slices.Equal(s.In(whole(2)), []int{2}) {
			t.Errorf("dropped: %+v", got)
		}
	}
	if v, e := s.Put(a, 0); v != 4 || e != api.OK {
		t.Errorf("anew: %d, %d", v, e)
	}
	if v, there := s.Get(a); v != 0 || !there || s.Live() != 2 || s.Ever() != 2 {
		t.Errorf("a value of 0 is one: %d, %v", v, there)
	}
	if was, e := s.Drop(api.Cell{Label: 1, Key: 9}); was || e != api.OK || s.Ever() != 2 {
		t.Errorf("never there: %v, %d", was, e)
	}
}

// P12.2: nodes are those of all labels' trees, and for no cell more than 33.
func TestNodes(t *testing.T) {
	for i, c := range []struct {
		cells []api.Cell
		nodes int
	}{
		{nil, 0},
		{[]api.Cell{{Label: 0, Key: 5}}, 33},
		{[]api.Cell{{Label: 15, Key: end}}, 33},
		{[]api.Cell{{Label: 0, Key: 5}, {Label: 0, Key: 5}}, 33},
		{[]api.Cell{{Label: 0, Key: 2}, {Label: 0, Key: 3}}, 34},
		{[]api.Cell{{Label: 0, Key: 2}, {Label: 1, Key: 2}}, 66},
		{[]api.Cell{{Label: 0, Key: 0}, {Label: 0, Key: end}}, 65},
		{[]api.Cell{{Label: 0, Key: 0}, {Label: 1, Key: end}, {Label: 1, Key: end - 1}, {Label: 2, Key: 9}}, 33 + 34 + 33},
	} {
		s := made(t, 16, 8)
		for _, x := range c.cells {
			put(t, s, x, 1)
		}
		if s.Nodes() != c.nodes {
			t.Errorf("case %d: %d nodes, want %d", i, s.Nodes(), c.nodes)
		}
		for _, x := range c.cells {
			s.Drop(x)
		}
		if s.Nodes() != c.nodes || s.Live() != 0 {
			t.Errorf("case %d, dropped: %d nodes, want %d", i, s.Nodes(), c.nodes)
		}
	}
}

// P12.2: as many nodes as there may be: of 16 labels one cell each.
func TestMostNodes(t *testing.T) {
	s := made(t, 16, 16)
	for label := range 16 {
		put(t, s, api.Cell{Label: label, Key: uint32(label) << 28}, 1)
		if s.Nodes() != 33*s.Ever() {
			t.Errorf("%d cells: %d nodes", s.Ever(), s.Nodes())
		}
	}
}

// P12.1, P12.2: areas by hand: no spans, empty ones, one key, all keys, spans that meet, and more labels than there are.
func TestAreasByHand(t *testing.T) {
	s, m := made(t, 2, 9), newModel(2, 9)
	for i, c := range []api.Cell{{Label: 1, Key: end}, {Label: 0, Key: 0}, {Label: 1, Key: 5}, {Label: 0, Key: 5}, {Label: 0, Key: 9}, {Label: 0, Key: end}, {Label: 0, Key: 5}} {
		playPut(t, s, m, c, 1<<i)
	}
	playDrop(t, s, m, api.Cell{Label: 0, Key: 9})
	for i, c := range []struct {
		a    [][]api.Span
		want []int64
	}{
		{nil, nil},
		{[][]api.Span{}, nil},
		{[][]api.Span{nil, {}, nil}, nil},
		{[][]api.Span{{{Lo: 1, Hi: 0}, {Lo: end, Hi: 0}}, {{Lo: 6, Hi: 5}}}, nil},
		{[][]api.Span{{{Lo: 0, Hi: 0}}}, []int64{2}},
		{[][]api.Span{{{Lo: 5, Hi: 5}}}, []int64{64}},
		{[][]api.Span{{{Lo: 9, Hi: 9}}}, nil},
		{[][]api.Span{{{Lo: 1, Hi: 4}, {Lo: 6, Hi: end - 1}}}, nil},
		{[][]api.Span{nil, {{Lo: end, Hi: end}}}, []int64{1}},
		{[][]api.Span{nil, {{Lo: 5, Hi: end - 1}}}, []int64{4}},
		{[][]api.Span{nil, {{Lo: 0, Hi: end}}}, []int64{1, 4}},
		{[][]api.Span{{{Lo: 0, Hi: end}}}, []int64{2, 32, 64}},
		{whole(2), []int64{1, 2, 4, 32, 64}},
		{whole(3), []int64{1, 2, 4, 32, 64}},
		{whole(40), []int64{1, 2, 4, 32, 64}},
		{[][]api.Span{nil, nil, {{Lo: 0, Hi: end}}}, nil},
		{[][]api.Span{{{Lo: 5, Hi: 9}, {Lo: 0, Hi: 5}, {Lo: 5, Hi: 5}, {Lo: 9, Hi: 5}, {Lo: 0, Hi: 9}}}, []int64{2, 64}},
		{[][]api.Span{{{Lo: end, Hi: end}, {Lo: 0, Hi: end}, {Lo: 0, Hi: 0}}, {{Lo: 5, Hi: 5}, {Lo: 5, Hi: 5}}}, []int64{2, 4, 32, 64}},
	} {
		if got := s.Fold(c.a); got != agg.Of(c.want) {
			t.Errorf("case %d: %+v, want of %v", i, got, c.want)
		}
		sameIn(t, s, m, c.a)
	}
}

// P2: an area is neither turned nor kept, and what In answers is the caller's own, spare room too.
func TestAreaIsCallers(t *testing.T) {
	s, m := made(t, 2, 9), newModel(2, 9)
	for key := range uint32(9) {
		playPut(t, s, m, api.Cell{Label: int(key % 2), Key: key}, int64(key))
	}
	spans := []api.Span{{Lo: 9, Hi: 4}, {Lo: 4, Hi: 8}, {Lo: 0, Hi: 4}, {Lo: 7, Hi: 7}}
	was := slices.Clone(spans)
	a := [][]api.Span{spans[:3], {{Lo: 1, Hi: 1}}, {{Lo: 3, Hi: 2}}, {{Lo: 0, Hi: end}}}
	all := [][]api.Span{was[:3], {{Lo: 1, Hi: 1}}, {{Lo: 3, Hi: 2}}, {{Lo: 0, Hi: end}}}
	sameIn(t, s, m, a[:3])
	if !slices.Equal(spans, was) || !slices.EqualFunc(a, all, slices.Equal) {
		t.Errorf("the area is %v, with %v", a, spans)
	}
	in := s.In(a)
	in = in[:cap(in)]
	for i := range in {
		in[i] = -1
	}
	sameIn(t, s, m, a)
	spans[1], a[1] = api.Span{}, nil
	same(t, s, m)
	sameIn(t, s, m, all)
}

// P12.1: All may be stopped at any place, gone through again, and within itself.
func TestAllStops(t *testing.T) {
	s, m := made(t, 3, 9), newModel(3, 9)
	for _, key := range []uint32{6, 2, 4, 1, 6, 5} {
		playPut(t, s, m, api.Cell{Label: int(key % 3), Key: key}, 1)
	}
	playDrop(t, s, m, api.Cell{Label: 1, Key: 4})
	want := cells(m.in(whole(3)))
	if len(want) != 4 {
		t.Fatalf("%v", want)
	}
	all := s.All()
	for stop := 1; stop <= len(want); stop++ {
		var got []api.Cell
		for c := range all {
			got = append(got, c)
			if len(got) == stop {
				break
			}
		}
		if !slices.Equal(got, want[:stop]) {
			t.Errorf("stopped at %d: %v", stop, got)
		}
	}
	pairs := 0
	for range all {
		for range all {
			pairs++
		}
	}
	if pairs != len(want)*len(want) {
		t.Errorf("%d pairs", pairs)
	}
}

// P12.1: All tells of those that are there when going through begins, each time anew; it ends, whatever is put on the way.
func TestAllOnTheWay(t *testing.T) {
	s := made(t, 1, 4)
	a, b, c := api.Cell{Key: 3}, api.Cell{Key: 1}, api.Cell{Key: 2}
	all := s.All()
	put(t, s, a, 1)
	put(t, s, b, 2)
	var got []api.Cell
	for x := range all {
		got = append(got, x)
		put(t, s, x, 5)
		put(t, s, c, 6)
	}
	if !slices.Equal(got, []api.Cell{a, b}) {
		t.Errorf("%v", got)
	}
	got = nil
	for x := range all {
		got = append(got, x)
		if was, e := s.Drop(x); !was || e != api.OK {
			t.Errorf("%v isn't there", x)
		}
	}
	if !slices.Equal(got, []api.Cell{a, b, c}) || s.Live() != 0 || s.Fold(whole(1)) != (api.Agg{}) {
		t.Errorf("%v", got)
	}
}

// P12.1, P12.2: every order of five calls that put and drop a few cells, right ones and wrong ones, in a store that gets full.
func TestEveryOrder(t *testing.T) {
	const calls, labels, cap = 5, 2, 2
	steps := []struct {
		drops bool
		cell  api.Cell
		value int64
	}{
		{cell: api.Cell{Label: 0, Key: 1}, value: 10},
		{cell: api.Cell{Label: 0, Key: 1}, value: -1 << 20},
		{cell: api.Cell{Label: 1, Key: 1}, value: 1 << 20},
		{cell: api.Cell{Label: 0, Key: end}, value: 7},
		{cell: api.Cell{Label: 0, Key: 1}, value: 1<<20 + 1},
		{cell: api.Cell{Label: 2, Key: 1}},
		{drops: true, cell: api.Cell{Label: 0, Key: 1}},
		{drops: true, cell: api.Cell{Label: 1, Key: 1}},
	}
	areas := [][][]api.Span{nil, whole(1), whole(3), {{{Lo: 2, Hi: end}}, {{Lo: 1, Hi: 1}}}, {{{Lo: 1, Hi: 0}}, {{Lo: 0, Hi: 4}, {Lo: 1, Hi: 9}}}}
	orders := 1
	for range calls {
		orders *= len(steps)
	}
	for order := range orders {
		s, m := made(t, labels, cap), newModel(labels, cap)
		for i, left := 0, order; i < calls; i, left = i+1, left/len(steps) {
			step := steps[left%len(steps)]
			if step.drops {
				playDrop(t, s, m, step.cell)
			} else {
				playPut(t, s, m, step.cell, step.value)
			}
		}
		same(t, s, m, api.Cell{Label: 0, Key: 1}, api.Cell{Label: 1, Key: 1}, api.Cell{Label: 2, Key: 1})
		for _, a := range areas {
			sameIn(t, s, m, a)
		}
	}
}

// P12.1, P12.2: long runs of drawn calls, in stores of few and many labels and cells.
func TestDrawnOrders(t *testing.T) {
	d := drawer(31)
	for _, c := range [][2]int{{1, 1}, {1, 5}, {2, 3}, {2, 10}, {3, 20}, {5, 40}, {15, 100}, {16, 300}, {16, 4096}} {
		s, m := made(t, c[0], c[1]), newModel(c[0], c[1])
		for range 500 {
			if d.below(3) == 0 {
				playDrop(t, s, m, d.cell(c[0]))
			} else {
				playPut(t, s, m, d.cell(c[0]), d.value())
			}
			sameIn(t, s, m, d.area())
			if d.below(8) == 0 {
				same(t, s, m, d.cell(c[0]), d.cell(c[0]))
			}
		}
		same(t, s, m)
		sameIn(t, s, m, whole(c[0]))
	}
}

// P12.1, P12.2: as many cells as may be, all of one label, as far apart as they can be.
func TestGreat(t *testing.T) {
	s := made(t, 16, api.MaxRows)
	for i := range uint32(api.MaxRows) {
		put(t, s, api.Cell{Label: 15, Key: i << 20}, 1<<20)
	}
	want := api.Agg{Count: api.MaxRows, Sum: api.MaxRows << 20, Min: 1 << 20, Max: 1 << 20}
	if got := s.Fold(whole(16)); got != want || s.Ever() != api.MaxRows || s.Live() != api.MaxRows {
		t.Errorf("%+v, %d cells", got, s.Ever())
	}
	// Of the beginnings of 0 to 12 bits there is a full tree; behind them each key has 20 of its own.
	if nodes := 2*api.MaxRows - 1 + 20*api.MaxRows; s.Nodes() != nodes {
		t.Errorf("%d nodes, want %d", s.Nodes(), nodes)
	}
	if v, e := s.Put(api.Cell{Label: 15, Key: 1}, 1); v != 0 || e != api.ErrFull {
		t.Errorf("%d, %d", v, e)
	}
	if v, e := s.Put(api.Cell{Label: 15, Key: (api.MaxRows - 1) << 20}, 1); v != api.MaxRows+1 || e != api.OK {
		t.Errorf("%d, %d", v, e)
	}
	in := s.In(whole(16))
	if len(in) != api.MaxRows || !slices.IsSorted(in) || in[0] != 1 || in[len(in)-1] != api.MaxRows+1 {
		t.Errorf("%d of them", len(in))
	}
	if got := slices.Collect(s.All()); len(got) != api.MaxRows || got[0] != (api.Cell{Label: 15}) {
		t.Errorf("%d cells", len(got))
	}
}

// P2: two stores have nothing in common.
func TestApart(t *testing.T) {
	a, b := made(t, 2, 2), made(t, 2, 2)
	put(t, a, api.Cell{Key: 1}, 4)
	put(t, a, api.Cell{Key: 2}, 4)
	if v, e := b.Put(api.Cell{Key: 3}, 9); v != 1 || e != api.OK || b.Fold(whole(2)) != agg.One(9) || a.Live() != 2 {
		t.Errorf("%d, %d", v, e)
	}
}
