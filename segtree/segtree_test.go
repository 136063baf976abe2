package segtree

import (
	"maps"
	"math"
	"slices"
	"testing"

	"clerestory/agg"
	"clerestory/api"
)

const end = math.MaxUint32

// drawer draws numbers by a rule, the same ones each time.
type drawer uint64

func (d *drawer) below(n int) int {
	*d = *d*6364136223846793005 + 1442695040888963407
	return int(uint64(*d) >> 33 % uint64(n))
}

// key is a key: most of them from a few bunches, so that they meet.
func (d *drawer) key() uint32 {
	switch d.below(6) {
	case 0:
		return uint32(d.below(8))
	case 1:
		return uint32(end - d.below(8))
	case 2:
		return uint32(1<<31 - 4 + d.below(8))
	case 3:
		return uint32(1) << d.below(32)
	case 4:
		return uint32(0xabcd0000 + d.below(64))
	}
	return uint32(d.below(1<<16)<<16 | d.below(1<<16))
}

// span is a span: of one key, of all behind or ahead of one, of any two, in any order.
func (d *drawer) span() api.Span {
	switch d.below(6) {
	case 0:
		key := d.key()
		return api.Span{Lo: key, Hi: key}
	case 1:
		return api.Span{Lo: d.key(), Hi: end}
	case 2:
		return api.Span{Lo: 0, Hi: d.key()}
	case 3:
		lo := d.key()
		return api.Span{Lo: lo, Hi: lo + uint32(d.below(6))}
	}
	return api.Span{Lo: d.key(), Hi: d.key()}
}

func (d *drawer) value() int64 {
	edges := []int64{math.MinInt64, math.MaxInt64, math.MinInt64 + 1, -1, 0, 1, 1 << 62}
	if d.below(4) == 0 {
		return edges[d.below(len(edges))]
	}
	return int64(d.below(2001) - 1000)
}

// start is a beginning of keys: how many bits, and these.
type start struct {
	bits int
	key  uint32
}

// model is what a tree must be: the values that there are, and the beginnings of all keys that were ever put.
type model struct {
	limit  int
	values map[uint32]int64
	starts map[start]struct{}
}

func newModel(limit int) *model {
	return &model{limit: limit, values: map[uint32]int64{}, starts: map[start]struct{}{}}
}

func (m *model) put(key uint32, value int64) api.Errno {
	grown := maps.Clone(m.starts)
	for bits := 0; bits <= 32; bits++ {
		grown[start{bits, uint32(uint64(key) >> (32 - bits))}] = struct{}{}
	}
	if len(grown) > m.limit {
		return api.ErrFull
	}
	m.starts = grown
	m.values[key] = value
	return api.OK
}

func (m *model) drop(key uint32) bool {
	_, had := m.values[key]
	delete(m.values, key)
	return had
}

// keys is the keys of a span that have values, rising.
func (m *model) keys(s api.Span) []uint32 {
	var list []uint32
	for key := range m.values {
		if s.Lo <= key && key <= s.Hi {
			list = append(list, key)
		}
	}
	slices.Sort(list)
	return list
}

func (m *model) kill(s api.Span) int {
	keys := m.keys(s)
	for _, key := range keys {
		delete(m.values, key)
	}
	return len(keys)
}

func (m *model) fold(s api.Span) api.Agg {
	var values []int64
	for _, key := range m.keys(s) {
		values = append(values, m.values[key])
	}
	return agg.Of(values)
}

// made is a tree that must come.
func made(t *testing.T, limit int) *Tree {
	t.Helper()
	tree, e := New(limit)
	if tree == nil || e != api.OK {
		t.Fatalf("New(%d): %v, %d", limit, tree, e)
	}
	return tree
}

// put puts what must be put.
func put(t *testing.T, tree *Tree, key uint32, value int64) {
	t.Helper()
	if e := tree.Put(key, value); e != api.OK {
		t.Fatalf("Put(%d, %d): %d", key, value, e)
	}
}

// planted is a tree with some keys; each has 10 times its place as its value, from 10 on.
func planted(t *testing.T, keys ...uint32) *Tree {
	t.Helper()
	tree := made(t, 1<<12)
	for i, key := range keys {
		put(t, tree, key, int64(10*(i+1)))
	}
	return tree
}

// listed is a tree's keys and values.
func listed(tree *Tree) (keys []uint32, values []int64) {
	for key, value := range tree.All() {
		keys, values = append(keys, key), append(values, value)
	}
	return keys, values
}

// same holds a tree against its model, without asking it for spans.
func same(t *testing.T, tree *Tree, m *model) {
	t.Helper()
	if tree.Nodes() != len(m.starts) {
		t.Fatalf("%d nodes, want %d", tree.Nodes(), len(m.starts))
	}
	keys, values := listed(tree)
	if !slices.Equal(keys, m.keys(api.Span{Hi: end})) {
		t.Fatalf("keys %v, want %v", keys, m.keys(api.Span{Hi: end}))
	}
	for i, key := range keys {
		if v, there := tree.Get(key); v != m.values[key] || !there || values[i] != v {
			t.Fatalf("key %d: %d, %v and %d, want %d", key, v, there, values[i], m.values[key])
		}
	}
	if a, want := tree.Fold(api.Span{Hi: end}), m.fold(api.Span{Hi: end}); a != want {
		t.Fatalf("all: %+v, want %+v", a, want)
	}
}

// P10.1: limits are layer 9's; a tree begins with nothing.
func TestLimits(t *testing.T) {
	for _, limit := range []int{1, 2, 32, 33, 34, 1<<22 - 1, 1 << 22} {
		same(t, made(t, limit), newModel(limit))
	}
	for _, limit := range []int{0, -1, -33, math.MinInt, 1<<22 + 1, 1 << 32, math.MaxInt} {
		if tree, e := New(limit); tree != nil || e != api.ErrArg {
			t.Errorf("New(%d): %v, %d", limit, tree, e)
		}
	}
}

// P10.1: nothing at all: no key has a value, and no span tells of one.
func TestNothing(t *testing.T) {
	var zero Tree
	for _, tree := range []*Tree{made(t, 1), made(t, 33), made(t, 1<<22), &zero} {
		for _, key := range []uint32{0, 1, 1 << 31, end} {
			if v, there := tree.Get(key); v != 0 || there || tree.Drop(key) {
				t.Errorf("key %d: %d, %v", key, v, there)
			}
			for _, s := range []api.Span{{Lo: key, Hi: end}, {Lo: 0, Hi: key}, {Lo: key, Hi: key}} {
				if tree.Fold(s) != (api.Agg{}) || tree.Kill(s) != 0 {
					t.Errorf("%v: %+v", s, tree.Fold(s))
				}
			}
		}
		if keys, _ := listed(tree); keys != nil || tree.Nodes() != 0 {
			t.Errorf("%v, %d nodes", keys, tree.Nodes())
		}
	}
	if e := zero.Put(1, 1); e != api.ErrFull || zero.Nodes() != 0 {
		t.Errorf("no room at all: %d", e)
	}
}

// P10.1: nodes are the beginnings of all keys that were ever put.
func TestNodes(t *testing.T) {
	for _, c := range []struct {
		keys  []uint32
		nodes int
	}{
		{[]uint32{0}, 33},
		{[]uint32{end}, 33},
		{[]uint32{0xdeadbeef}, 33},
		{[]uint32{2, 3}, 34},
		{[]uint32{3, 2}, 34},
		{[]uint32{1, 2}, 35},
		{[]uint32{0, end}, 65},
		{[]uint32{end, 0}, 65},
		{[]uint32{1<<31 - 1, 1 << 31}, 65},
		{[]uint32{0, 1 << 31}, 65},
		{[]uint32{0, 1 << 30}, 64},
		{[]uint32{end - 1, end}, 34},
		{[]uint32{5, 5, 5}, 33},
		{[]uint32{0, 1, 2, 3}, 37},
		{[]uint32{0, 1, 2, 3, 4, 5, 6, 7}, 44},
	} {
		tree := planted(t, c.keys...)
		if tree.Nodes() != c.nodes {
			t.Errorf("%v: %d nodes, want %d", c.keys, tree.Nodes(), c.nodes)
		}
		tree.Drop(c.keys[0])
		tree.Kill(api.Span{Hi: end})
		if tree.Nodes() != c.nodes {
			t.Errorf("%v, killed: %d nodes, want %d", c.keys, tree.Nodes(), c.nodes)
		}
		put(t, tree, c.keys[0], 1)
		if tree.Nodes() != c.nodes {
			t.Errorf("%v, one of them put anew: %d nodes, want %d", c.keys, tree.Nodes(), c.nodes)
		}
	}
}

// P10.1: for each pair of keys that part at a bit, the nodes behind it are two.
func TestNodesOfPairs(t *testing.T) {
	for bit := range 32 {
		for _, key := range []uint32{0, end, 0x0f0f3355} {
			if tree := planted(t, key, key^1<<bit); tree.Nodes() != 33+bit+1 {
				t.Errorf("%x, parting at bit %d: %d nodes", key, bit, tree.Nodes())
			}
		}
	}
}

// P10.1: asking, dropping and killing makes no nodes, whatever the keys.
func TestNoNodesBesidePut(t *testing.T) {
	tree := planted(t, 8, end)
	nodes := tree.Nodes()
	d := drawer(3)
	for range 2000 {
		tree.Get(d.key())
		tree.Fold(d.span())
		tree.Drop(d.key())
		tree.Kill(d.span())
		if tree.Nodes() != nodes {
			t.Fatalf("%d nodes, want %d", tree.Nodes(), nodes)
		}
	}
}

// P10.1: what a key had is replaced, and each value from the least to the greatest is kept.
func TestPutAgain(t *testing.T) {
	for _, key := range []uint32{0, 1, 1<<31 - 1, 1 << 31, end - 1, end} {
		tree := made(t, 33)
		for _, v := range []int64{5, -5, 0, 0, math.MinInt64, math.MaxInt64, 1 << 20, -1} {
			put(t, tree, key, v)
			if got, there := tree.Get(key); got != v || !there {
				t.Errorf("key %d: %d, %v, want %d", key, got, there, v)
			}
			if a := tree.Fold(api.Span{Hi: end}); a != agg.One(v) || tree.Nodes() != 33 {
				t.Errorf("key %d with %d: %+v, %d nodes", key, v, a, tree.Nodes())
			}
		}
	}
}

// P10.1: a value of 0 is a value.
func TestZeroValue(t *testing.T) {
	tree := made(t, 33)
	put(t, tree, 7, 0)
	if v, there := tree.Get(7); v != 0 || !there {
		t.Errorf("%d, %v", v, there)
	}
	if keys, values := listed(tree); !slices.Equal(keys, []uint32{7}) || !slices.Equal(values, []int64{0}) {
		t.Errorf("%v, %v", keys, values)
	}
	if tree.Fold(api.Span{Hi: end}).Count != 1 || !tree.Drop(7) || tree.Drop(7) {
		t.Error("it was there once")
	}
}

// P10.1: a put that would pass the limit turns nothing; one that needs no more nodes goes on.
func TestFull(t *testing.T) {
	for limit := 1; limit <= 140; limit++ {
		tree, m := made(t, limit), newModel(limit)
		d := drawer(limit)
		for range 60 {
			key, v := d.key(), d.value()
			e, want := tree.Put(key, v), m.put(key, v)
			if e != want {
				t.Fatalf("limit %d, Put(%d): %d, want %d", limit, key, e, want)
			}
			if e == api.ErrFull {
				same(t, tree, m)
			}
		}
		same(t, tree, m)
	}
}

// P10.1: the last node is used, and a full tree's own keys can still be put, dropped, killed, and put anew.
func TestFullGoesOn(t *testing.T) {
	tree := made(t, 35)
	put(t, tree, 4, 1)
	put(t, tree, 6, 2)
	for range 3 {
		for _, key := range []uint32{5, 7, 0, end} {
			if e := tree.Put(key, 9); e != api.ErrFull {
				t.Errorf("Put(%d): %d", key, e)
			}
			if v, there := tree.Get(key); v != 0 || there || tree.Nodes() != 35 {
				t.Errorf("key %d: %d, %v, %d nodes", key, v, there, tree.Nodes())
			}
		}
		if tree.Kill(api.Span{Hi: end}) != 2 || tree.Put(5, 9) != api.ErrFull || tree.Fold(api.Span{Hi: end}) != (api.Agg{}) {
			t.Error("what was killed leaves its nodes")
		}
		put(t, tree, 6, 2)
		if a := tree.Fold(api.Span{Hi: end}); a != agg.One(2) {
			t.Errorf("%+v", a)
		}
		put(t, tree, 4, 1)
	}
}

// P10.1: a put that is refused below a killed node leaves what was killed killed.
func TestFullBelowKilled(t *testing.T) {
	tree := made(t, 35)
	put(t, tree, 4, 1)
	put(t, tree, 6, 2)
	tree.Kill(api.Span{Lo: 4, Hi: 7})
	if e := tree.Put(5, 3); e != api.ErrFull {
		t.Fatal(e)
	}
	put(t, tree, 6, 8)
	if keys, values := listed(tree); !slices.Equal(keys, []uint32{6}) || !slices.Equal(values, []int64{8}) {
		t.Errorf("%v, %v", keys, values)
	}
}

// P10.1: the spans of a few keys, at their edges.
func TestFoldByHand(t *testing.T) {
	tree := planted(t, 0, 1, 5, 1<<31-1, 1<<31, end)
	for _, c := range []struct {
		lo, hi uint32
		want   []int64
	}{
		{0, end, []int64{10, 20, 30, 40, 50, 60}},
		{0, 0, []int64{10}},
		{1, 1, []int64{20}},
		{0, 1, []int64{10, 20}},
		{1, 4, []int64{20}},
		{2, 4, nil},
		{2, 5, []int64{30}},
		{5, 6, []int64{30}},
		{6, 1<<31 - 2, nil},
		{6, 1<<31 - 1, []int64{40}},
		{1<<31 - 1, 1 << 31, []int64{40, 50}},
		{1 << 31, end - 1, []int64{50}},
		{1 << 31, end, []int64{50, 60}},
		{end, end, []int64{60}},
		{1, end - 1, []int64{20, 30, 40, 50}},
		{1, 0, nil},
		{end, 0, nil},
		{1 << 31, 1<<31 - 1, nil},
		{5, 1, nil},
	} {
		if a := tree.Fold(api.Span{Lo: c.lo, Hi: c.hi}); a != agg.Of(c.want) {
			t.Errorf("%d to %d: %+v, want of %v", c.lo, c.hi, a, c.want)
		}
	}
}

// P10.1: sums go round as layer 8's do.
func TestSumsGoRound(t *testing.T) {
	tree := made(t, 200)
	put(t, tree, 0, math.MaxInt64)
	put(t, tree, 1, math.MaxInt64)
	put(t, tree, end, 3)
	if a, want := tree.Fold(api.Span{Hi: end}), (api.Agg{Count: 3, Sum: 1, Min: 3, Max: math.MaxInt64}); a != want {
		t.Errorf("%+v, want %+v", a, want)
	}
	tree.Drop(1)
	if a, want := tree.Fold(api.Span{Hi: end}), (api.Agg{Count: 2, Sum: math.MinInt64 + 2, Min: 3, Max: math.MaxInt64}); a != want {
		t.Errorf("%+v, want %+v", a, want)
	}
}

// P10.1: the least and the greatest go with the keys that had them.
func TestExtremesGo(t *testing.T) {
	tree := planted(t, 1, 2, 3, 1<<31, end)
	tree.Drop(1)
	tree.Drop(end)
	if a, want := tree.Fold(api.Span{Hi: end}), agg.Of([]int64{20, 30, 40}); a != want {
		t.Errorf("%+v, want %+v", a, want)
	}
	put(t, tree, 1<<31, -9)
	if a, want := tree.Fold(api.Span{Hi: end}), agg.Of([]int64{20, 30, -9}); a != want {
		t.Errorf("%+v, want %+v", a, want)
	}
}

// P10.1: a key that is dropped has no value any more; one that had none stays so.
func TestDrop(t *testing.T) {
	keys := []uint32{0, 1, 1<<31 - 1, 1 << 31, end - 1, end}
	for _, gone := range keys {
		tree := planted(t, keys...)
		if !tree.Drop(gone) || tree.Drop(gone) {
			t.Errorf("%d was there, and isn't then", gone)
		}
		for i, key := range keys {
			v, there := tree.Get(key)
			if there != (key != gone) || there && v != int64(10*(i+1)) || !there && v != 0 {
				t.Errorf("without %d, key %d: %d, %v", gone, key, v, there)
			}
		}
		put(t, tree, gone, -3)
		if v, there := tree.Get(gone); v != -3 || !there || tree.Fold(api.Span{Hi: end}).Count != len(keys) {
			t.Errorf("%d anew: %d, %v", gone, v, there)
		}
	}
	tree := planted(t, 4)
	for _, key := range []uint32{0, 3, 5, 6, 7, 1 << 31, end} {
		if tree.Drop(key) || tree.Fold(api.Span{Hi: end}) != agg.One(10) {
			t.Errorf("%d was never there", key)
		}
	}
}

// P10.2: what is killed leaves all others; empty spans kill nothing.
func TestKillByHand(t *testing.T) {
	keys := []uint32{0, 1, 5, 1<<31 - 1, 1 << 31, end}
	for _, c := range []struct {
		lo, hi uint32
		left   []uint32
	}{
		{0, end, nil},
		{0, 0, keys[1:]},
		{end, end, keys[:5]},
		{1, end - 1, []uint32{0, end}},
		{0, 4, keys[2:]},
		{2, 4, keys},
		{6, 1<<31 - 2, keys},
		{1<<31 - 1, 1 << 31, []uint32{0, 1, 5, end}},
		{0, 1<<31 - 1, []uint32{1 << 31, end}},
		{1 << 31, end, keys[:4]},
		{5, 5, []uint32{0, 1, 1<<31 - 1, 1 << 31, end}},
		{1, 0, keys},
		{end, 0, keys},
		{1 << 31, 1<<31 - 1, keys},
		{6, 5, keys},
	} {
		tree := planted(t, keys...)
		s := api.Span{Lo: c.lo, Hi: c.hi}
		if n := tree.Kill(s); n != len(keys)-len(c.left) {
			t.Errorf("%v: %d", s, n)
		}
		if n := tree.Kill(s); n != 0 {
			t.Errorf("%v once more: %d", s, n)
		}
		got, values := listed(tree)
		if !slices.Equal(got, c.left) {
			t.Errorf("%v: %v, want %v", s, got, c.left)
		}
		for i, key := range got {
			if values[i] != int64(10*(slices.Index(keys, key)+1)) {
				t.Errorf("%v: key %d has %d", s, key, values[i])
			}
		}
		if a := tree.Fold(api.Span{Hi: end}); a != agg.Of(values) {
			t.Errorf("%v: %+v", s, a)
		}
	}
}

// P10.2: what is put anew behind a kill is all that is there, at whatever height the kill was.
func TestPutBehindKill(t *testing.T) {
	keys := []uint32{8, 9, 10, 11, 12, 13, 14, 15}
	for height := range 33 {
		s := api.Span{Lo: 0, Hi: uint32(uint64(1)<<height - 1)}
		for _, anew := range keys {
			tree := planted(t, keys...)
			killed := 0
			for _, key := range keys {
				if key <= s.Hi {
					killed++
				}
			}
			if n := tree.Kill(s); n != killed {
				t.Fatalf("%v: %d", s, n)
			}
			put(t, tree, anew, 1)
			want := len(keys) - killed
			if anew <= s.Hi {
				want++
			}
			if a := tree.Fold(api.Span{Hi: end}); a.Count != want {
				t.Errorf("%v, then %d: %+v", s, anew, a)
			}
			for _, key := range keys {
				if _, there := tree.Get(key); there != (key == anew || key > s.Hi) {
					t.Errorf("%v, then %d: key %d %v", s, anew, key, there)
				}
			}
		}
	}
}

// P10.2: kills within kills, with puts between them, bring nothing back.
func TestKillsNested(t *testing.T) {
	tree := planted(t, 0, 1, 2, 3, 4, 5, 6, 7)
	tree.Kill(api.Span{Lo: 0, Hi: 1})
	tree.Kill(api.Span{Lo: 0, Hi: 3})
	put(t, tree, 2, 5)
	tree.Kill(api.Span{Lo: 0, Hi: 7})
	put(t, tree, 0, 6)
	tree.Drop(0)
	put(t, tree, 7, 7)
	put(t, tree, 100, 8)
	if keys, values := listed(tree); !slices.Equal(keys, []uint32{7, 100}) || !slices.Equal(values, []int64{7, 8}) {
		t.Errorf("%v, %v", keys, values)
	}
	put(t, tree, 4, 9)
	if a := tree.Fold(api.Span{Lo: 0, Hi: 6}); a != agg.One(9) {
		t.Errorf("%+v", a)
	}
}

// P10.2: spans side by side are told as both together, wherever they part.
func TestSideBySide(t *testing.T) {
	d := drawer(17)
	for range 200 {
		tree := made(t, 1<<12)
		var cuts []uint32
		for range d.below(12) {
			key := d.key()
			put(t, tree, key, d.value())
			cuts = append(cuts, key, key-1, key+1)
		}
		tree.Kill(d.span())
		cuts = append(cuts, 0, 1<<31-1, end-1, d.key())
		for _, cut := range cuts {
			if cut == end {
				continue
			}
			lo, hi := min(cut, d.key()), max(cut+1, d.key())
			both := tree.Fold(api.Span{Lo: lo, Hi: hi})
			if parts := agg.Merge(tree.Fold(api.Span{Lo: lo, Hi: cut}), tree.Fold(api.Span{Lo: cut + 1, Hi: hi})); parts != both {
				t.Fatalf("%d to %d, parted behind %d: %+v, want %+v", lo, hi, cut, parts, both)
			}
		}
	}
}

// play makes one call of a tree and of its model, by its number.
func play(t *testing.T, tree *Tree, m *model, kind int, key uint32, value int64, s api.Span) {
	t.Helper()
	switch kind {
	case 0:
		if e, want := tree.Put(key, value), m.put(key, value); e != want {
			t.Fatalf("Put(%d, %d): %d, want %d", key, value, e, want)
		}
	case 1:
		if had, want := tree.Drop(key), m.drop(key); had != want {
			t.Fatalf("Drop(%d): %v, want %v", key, had, want)
		}
	case 2:
		if n, want := tree.Kill(s), m.kill(s); n != want {
			t.Fatalf("Kill(%v): %d, want %d", s, n, want)
		}
	case 3:
		v, there := tree.Get(key)
		if want, wanted := m.values[key]; v != want || there != wanted {
			t.Fatalf("Get(%d): %d, %v, want %d, %v", key, v, there, want, wanted)
		}
	case 4:
		if a, want := tree.Fold(s), m.fold(s); a != want {
			t.Fatalf("Fold(%v): %+v, want %+v", s, a, want)
		}
	}
}

// P10.1, P10.2: every order of five calls that put, drop and kill a few keys and spans, in a tree that gets full.
func TestEveryOrder(t *testing.T) {
	const calls, limit = 5, 67
	steps := []struct {
		kind int
		key  uint32
		s    api.Span
	}{
		{kind: 0, key: 0},
		{kind: 0, key: 1},
		{kind: 0, key: 2},
		{kind: 0, key: end},
		{kind: 1, key: 1},
		{kind: 2, s: api.Span{Hi: 1}},
		{kind: 2, s: api.Span{Lo: 1, Hi: end}},
		{kind: 2, s: api.Span{Hi: end}},
	}
	orders := 1
	for range calls {
		orders *= len(steps)
	}
	for order := range orders {
		tree, m := made(t, limit), newModel(limit)
		for i, left := 0, order; i < calls; i, left = i+1, left/len(steps) {
			step := steps[left%len(steps)]
			play(t, tree, m, step.kind, step.key, int64(i+1), step.s)
		}
		for _, s := range []api.Span{{}, {Lo: 1, Hi: 1}, {Lo: 1, Hi: 2}, {Lo: 2, Hi: end}, {Lo: 2, Hi: 1}} {
			play(t, tree, m, 4, 0, 0, s)
		}
		same(t, tree, m)
	}
}

// P10.1, P10.2: long runs of drawn calls, in trees of small and great limits.
func TestDrawnOrders(t *testing.T) {
	d := drawer(23)
	for run, limit := range []int{33, 40, 66, 100, 200, 400, 1000, 4000, 4000, 4000, 1 << 22} {
		tree, m := made(t, limit), newModel(limit)
		for range 400 {
			kind := d.below(5)
			if d.below(2) == 0 {
				// More is put than is killed.
				kind = 0
			}
			play(t, tree, m, kind, d.key(), d.value(), d.span())
			if d.below(8) == 0 {
				same(t, tree, m)
			}
		}
		if t.Failed() {
			t.Fatalf("run %d", run)
		}
		same(t, tree, m)
	}
}

// P10.1: a great tree of keys side by side, as full as it gets.
func TestGreat(t *testing.T) {
	const bits = 16
	// Of the beginnings of 0 to 16 bits there is one each, and the others are a full tree.
	limit := 33 - bits + 2<<bits - 2
	tree := made(t, limit)
	for key := range uint32(1 << bits) {
		put(t, tree, key, int64(key))
	}
	if tree.Nodes() != limit || tree.Put(1<<bits, 1) != api.ErrFull || tree.Put(end, 1) != api.ErrFull {
		t.Errorf("%d nodes, want %d", tree.Nodes(), limit)
	}
	n := int64(1 << bits)
	if a, want := tree.Fold(api.Span{Hi: end}), (api.Agg{Count: int(n), Sum: n * (n - 1) / 2, Max: n - 1}); a != want {
		t.Errorf("%+v, want %+v", a, want)
	}
	next := uint32(0)
	for key, v := range tree.All() {
		if key != next || v != int64(key) {
			t.Fatalf("%d with %d, want %d", key, v, next)
		}
		next++
	}
	if int64(next) != n || tree.Kill(api.Span{Lo: 1, Hi: uint32(n - 2)}) != int(n-2) {
		t.Errorf("%d keys", next)
	}
	if keys, _ := listed(tree); !slices.Equal(keys, []uint32{0, uint32(n - 1)}) {
		t.Errorf("%v", keys)
	}
}

// P10.1: All may be stopped at any place, gone through again, and within itself; it ends behind the last key.
func TestAllStops(t *testing.T) {
	want := []uint32{0, 1, 1<<31 - 1, 1 << 31, end}
	all := planted(t, end, 1<<31, 0, 1<<31-1, 1).All()
	for stop := 1; stop <= len(want); stop++ {
		var got []uint32
		for key := range all {
			got = append(got, key)
			if len(got) == stop {
				break
			}
		}
		if !slices.Equal(got, want[:stop]) {
			t.Errorf("stopped at %d: %v", stop, got)
		}
	}
	pairs := 0
	for range all {
		for range all {
			pairs++
		}
	}
	if pairs != len(want)*len(want) {
		t.Errorf("%d pairs", pairs)
	}
}

// P10.1: All goes on among the keys as they are then.
func TestAllAsItIs(t *testing.T) {
	tree := planted(t, 3, 5, 9, end)
	all := tree.All()
	tree.Drop(3)
	put(t, tree, 4, 1)
	var got []uint32
	for key := range all {
		got = append(got, key)
		switch key {
		case 4:
			put(t, tree, 2, 1)
			put(t, tree, 6, 1)
			tree.Drop(4)
		case 6:
			tree.Kill(api.Span{Hi: end})
			put(t, tree, 1<<31, 1)
		}
	}
	if want := []uint32{4, 5, 6, 1 << 31}; !slices.Equal(got, want) {
		t.Errorf("%v, want %v", got, want)
	}
	if keys, _ := listed(tree); !slices.Equal(keys, []uint32{1 << 31}) {
		t.Errorf("%v", keys)
	}
}

// P10.1: all keys can be dropped on the way.
func TestAllDropped(t *testing.T) {
	tree := planted(t, 0, 1, 2, 77, 1<<31, end)
	count := 0
	for key := range tree.All() {
		if !tree.Drop(key) {
			t.Errorf("%d isn't there", key)
		}
		count++
	}
	if count != 6 || tree.Fold(api.Span{Hi: end}) != (api.Agg{}) {
		t.Errorf("%d keys, %+v", count, tree.Fold(api.Span{Hi: end}))
	}
}

// P2: two trees have nothing in common.
func TestApart(t *testing.T) {
	a, b := planted(t, 1, 2), planted(t, 1, 2)
	a.Kill(api.Span{Hi: 1})
	put(t, a, 3, 4)
	if keys, _ := listed(b); !slices.Equal(keys, []uint32{1, 2}) || b.Nodes() != 35 {
		t.Errorf("%v, %d nodes", keys, b.Nodes())
	}
}
