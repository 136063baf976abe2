package arena

import (
	"math"
	"slices"
	"testing"

	"clerestory/api"
)

// drawer draws numbers by a rule, the same ones each time.
type drawer uint64

func (d *drawer) below(n int) int {
	*d = *d*6364136223846793005 + 1442695040888963407
	return int(uint64(*d) >> 33 % uint64(n))
}

// node is a node with something in each field.
func (d *drawer) node() Node {
	n := int64(d.below(1 << 30))
	return Node{
		Left:   int32(d.below(9) - 3),
		Right:  int32(d.below(9) - 3),
		Agg:    api.Agg{Count: d.below(7) - 2, Sum: n, Min: -n, Max: n + 1},
		Killed: d.below(2) == 0,
	}
}

// whole is a node with the greatest and the least numbers.
func whole() Node {
	return Node{
		Left:   math.MinInt32,
		Right:  math.MaxInt32,
		Agg:    api.Agg{Count: math.MinInt, Sum: math.MaxInt64, Min: math.MinInt64, Max: -1},
		Killed: true,
	}
}

// made is an arena that must come.
func made(t *testing.T, limit int) *Arena {
	t.Helper()
	a, e := New(limit)
	if a == nil || e != api.OK {
		t.Fatalf("New(%d): %v, %d", limit, a, e)
	}
	return a
}

// filled is an arena with so many nodes, each of which has its number in Left.
func filled(t *testing.T, limit, nodes int) *Arena {
	t.Helper()
	a := made(t, limit)
	for range nodes {
		i, e := a.Alloc()
		if e != api.OK || a.Set(i, Node{Left: i}) != api.OK {
			t.Fatalf("node %d: %d", i, e)
		}
	}
	return a
}

// strange are numbers of no node, whenever there are so many.
func strange(nodes int) []int32 {
	n := int32(nodes)
	return []int32{0, -1, -2, -n, -n - 1, n + 1, n + 2, 2*n + 1, 1 << 22, 1<<22 + 1, math.MinInt32, math.MinInt32 + 1, math.MaxInt32 - 1, math.MaxInt32}
}

// same holds an arena against all of its nodes, as they must be.
func same(t *testing.T, a *Arena, limit int, want []Node) {
	t.Helper()
	if a.Len() != len(want) || a.Room() != limit-len(want) {
		t.Fatalf("%d nodes and room for %d, want %d and %d", a.Len(), a.Room(), len(want), limit-len(want))
	}
	for k, w := range want {
		if n, e := a.Get(int32(k + 1)); n != w || e != api.OK {
			t.Fatalf("node %d: %+v, %d, want %+v", k+1, n, e, w)
		}
	}
	var got []Node
	for i, n := range a.All() {
		got = append(got, n)
		if int(i) != len(got) {
			t.Fatalf("All comes to %d as number %d", i, len(got))
		}
	}
	if !slices.Equal(got, want) {
		t.Fatalf("All: %+v, want %+v", got, want)
	}
}

// P9.1: limits from 1 to 2^22 are right; an arena begins with nothing.
func TestLimits(t *testing.T) {
	for _, limit := range []int{1, 2, 33, 1 << 20, 1<<22 - 1, 1 << 22} {
		same(t, made(t, limit), limit, nil)
	}
	for _, limit := range []int{0, -1, -2, -1 << 22, math.MinInt, 1<<22 + 1, 1 << 23, 1 << 32, 1<<32 + 1, math.MaxInt} {
		if a, e := New(limit); a != nil || e != api.ErrArg {
			t.Errorf("New(%d): %v, %d", limit, a, e)
		}
	}
}

// P9.1: numbers go from 1 on up to the limit; behind it an arena is full, and stays so.
func TestAlloc(t *testing.T) {
	for limit := 1; limit <= 70; limit++ {
		a := made(t, limit)
		for k := 1; k <= limit; k++ {
			if i, e := a.Alloc(); i != int32(k) || e != api.OK || a.Len() != k || a.Room() != limit-k {
				t.Fatalf("limit %d: %d, %d with %d nodes and room for %d", limit, i, e, a.Len(), a.Room())
			}
			if n, e := a.Get(int32(k)); n != (Node{}) || e != api.OK {
				t.Fatalf("limit %d: a new node is %+v, %d", limit, n, e)
			}
		}
		for range 3 {
			if i, e := a.Alloc(); i != 0 || e != api.ErrFull {
				t.Fatalf("limit %d: %d, %d of a full one", limit, i, e)
			}
		}
		same(t, a, limit, make([]Node, limit))
	}
}

// P9.1: the greatest arena takes 2^22 nodes, and no more.
func TestGreatest(t *testing.T) {
	const limit = 1 << 22
	a := made(t, limit)
	for k := 1; k <= limit; k++ {
		if i, e := a.Alloc(); int(i) != k || e != api.OK {
			t.Fatalf("%d: %d, %d", k, i, e)
		}
	}
	if i, e := a.Alloc(); i != 0 || e != api.ErrFull || a.Len() != limit || a.Room() != 0 {
		t.Fatalf("%d, %d with %d nodes and room for %d", i, e, a.Len(), a.Room())
	}
	if a.Set(limit, whole()) != api.OK || a.Set(limit+1, whole()) != api.ErrNone {
		t.Error("Set of the last one, and of the one behind it")
	}
	if n, e := a.Get(limit); n != whole() || e != api.OK {
		t.Errorf("the last one: %+v, %d", n, e)
	}
	if n, e := a.Get(limit - 1); n != (Node{}) || e != api.OK {
		t.Errorf("the last but one: %+v, %d", n, e)
	}
}

// P9.1: numbers of no node are ErrNone, with a node of all 0; nothing is turned by them.
func TestNoSuchNode(t *testing.T) {
	const limit = 6
	for nodes := 0; nodes <= limit; nodes++ {
		a := filled(t, limit, nodes)
		for _, i := range strange(nodes) {
			if i >= 1 && int(i) <= nodes {
				continue
			}
			if n, e := a.Get(i); n != (Node{}) || e != api.ErrNone {
				t.Errorf("%d nodes, Get(%d): %+v, %d", nodes, i, n, e)
			}
			if e := a.Set(i, whole()); e != api.ErrNone {
				t.Errorf("%d nodes, Set(%d): %d", nodes, i, e)
			}
		}
		var want []Node
		for k := range nodes {
			want = append(want, Node{Left: int32(k + 1)})
		}
		same(t, a, limit, want)
	}
}

// P9.2: what is set ahead of its node's coming isn't there when it comes.
func TestSetTooSoon(t *testing.T) {
	a := filled(t, 3, 1)
	if a.Set(2, whole()) != api.ErrNone {
		t.Fatal("there is no 2")
	}
	if i, e := a.Alloc(); i != 2 || e != api.OK {
		t.Fatal(i, e)
	}
	same(t, a, 3, []Node{{Left: 1}, {}})
}

// P9.2: each field of what is set is got, and no other node is turned.
func TestSetAndGet(t *testing.T) {
	fields := []Node{
		{}, whole(),
		{Left: 1}, {Left: -1}, {Left: math.MaxInt32}, {Left: math.MinInt32},
		{Right: 1}, {Right: -1}, {Right: math.MaxInt32}, {Right: math.MinInt32},
		{Agg: api.Agg{Count: 1}}, {Agg: api.Agg{Count: -1}}, {Agg: api.Agg{Count: math.MaxInt}}, {Agg: api.Agg{Count: math.MinInt}},
		{Agg: api.Agg{Sum: 1}}, {Agg: api.Agg{Sum: math.MaxInt64}}, {Agg: api.Agg{Sum: math.MinInt64}},
		{Agg: api.Agg{Min: 1}}, {Agg: api.Agg{Min: math.MaxInt64}}, {Agg: api.Agg{Min: math.MinInt64}},
		{Agg: api.Agg{Max: 1}}, {Agg: api.Agg{Max: math.MaxInt64}}, {Agg: api.Agg{Max: math.MinInt64}},
		{Killed: true},
	}
	const nodes = 5
	for k := range nodes {
		a := filled(t, nodes, nodes)
		want := []Node{{Left: 1}, {Left: 2}, {Left: 3}, {Left: 4}, {Left: 5}}
		for _, n := range fields {
			if e := a.Set(int32(k+1), n); e != api.OK {
				t.Fatalf("Set(%d): %d", k+1, e)
			}
			want[k] = n
			same(t, a, nodes, want)
		}
	}
}

// P9.2: two arenas have nothing in common, and a node that was got is the caller's own.
func TestApart(t *testing.T) {
	a, b := filled(t, 4, 2), filled(t, 4, 3)
	n, _ := a.Get(1)
	n.Left, n.Agg.Sum, n.Killed = 77, 77, true
	same(t, a, 4, []Node{{Left: 1}, {Left: 2}})
	a.Set(2, whole())
	same(t, b, 4, []Node{{Left: 1}, {Left: 2}, {Left: 3}})
	b.Set(1, n)
	same(t, a, 4, []Node{{Left: 1}, whole()})
}

// P9.1, P9.2: every order of six calls, of an arena of two nodes.
func TestEveryOrder(t *testing.T) {
	const limit, calls, kinds = 2, 6, 6
	orders := 1
	for range calls {
		orders *= kinds
	}
	for order := range orders {
		a, want := made(t, limit), []Node(nil)
		for step, left := 0, order; step < calls; step, left = step+1, left/kinds {
			want = play(t, a, limit, want, left%kinds, Node{Right: int32(step + 1)})
		}
		same(t, a, limit, want)
	}
}

// play makes one call of an arena, holds its answer against the nodes that there are, and answers those that there are then.
func play(t *testing.T, a *Arena, limit int, want []Node, kind int, n Node) []Node {
	t.Helper()
	switch kind {
	case 0:
		i, e := a.Alloc()
		if len(want) == limit {
			if i != 0 || e != api.ErrFull {
				t.Fatalf("a full one: %d, %d", i, e)
			}
			return want
		}
		if int(i) != len(want)+1 || e != api.OK {
			t.Fatalf("the next one: %d, %d", i, e)
		}
		return append(want, Node{})
	case 1, 2, 3:
		return playSet(t, a, want, int32(kind), n)
	}
	playGet(t, a, want, int32(kind-3))
	return want
}

func playSet(t *testing.T, a *Arena, want []Node, i int32, n Node) []Node {
	t.Helper()
	e := a.Set(i, n)
	if int(i) > len(want) || i < 1 {
		if e != api.ErrNone {
			t.Fatalf("Set(%d) of %d nodes: %d", i, len(want), e)
		}
		return want
	}
	if e != api.OK {
		t.Fatalf("Set(%d) of %d nodes: %d", i, len(want), e)
	}
	want[i-1] = n
	return want
}

func playGet(t *testing.T, a *Arena, want []Node, i int32) {
	t.Helper()
	n, e := a.Get(i)
	if int(i) > len(want) || i < 1 {
		if n != (Node{}) || e != api.ErrNone {
			t.Fatalf("Get(%d) of %d nodes: %+v, %d", i, len(want), n, e)
		}
		return
	}
	if n != want[i-1] || e != api.OK {
		t.Fatalf("Get(%d): %+v, %d", i, n, e)
	}
}

// P9.1, P9.2: long runs of drawn calls, in arenas of all small limits.
func TestDrawnOrders(t *testing.T) {
	d := drawer(9)
	for limit := 1; limit <= 40; limit++ {
		a, want := made(t, limit), []Node(nil)
		for range 40 * limit {
			switch i := int32(d.below(limit+5) - 2); d.below(5) {
			case 0:
				want = play(t, a, limit, want, 0, Node{})
			case 1, 2:
				want = playSet(t, a, want, i, d.node())
			default:
				playGet(t, a, want, i)
			}
		}
		same(t, a, limit, want)
	}
}

// P9.1: All may be stopped at any place, gone through again, and within itself.
func TestAllStops(t *testing.T) {
	const nodes = 5
	all := filled(t, nodes, nodes).All()
	for stop := 1; stop <= nodes; stop++ {
		var got []int32
		for i := range all {
			got = append(got, i)
			if len(got) == stop {
				break
			}
		}
		if len(got) != stop || got[stop-1] != int32(stop) {
			t.Errorf("stopped at %d: %v", stop, got)
		}
	}
	pairs := 0
	for i, n := range all {
		for j, m := range all {
			pairs++
			if n.Left != i || m.Left != j {
				t.Errorf("%d is %+v, %d is %+v", i, n, j, m)
			}
		}
	}
	if pairs != nodes*nodes {
		t.Errorf("%d pairs", pairs)
	}
}

// P9.1: All tells of each node as it is when it comes to it, not as it was when All was called or begun.
func TestAllAsItIs(t *testing.T) {
	a := filled(t, 6, 3)
	all := a.All()
	a.Set(3, Node{Left: 30})
	var got []int32
	for i, n := range all {
		got = append(got, n.Left)
		// The one behind it is turned, the one ahead of it in vain.
		a.Set(i+1, Node{Left: 10*n.Left + i})
		a.Set(i-1, Node{Left: -1})
	}
	if want := []int32{1, 11, 112}; !slices.Equal(got, want) {
		t.Errorf("%v, want %v", got, want)
	}
	same(t, a, 6, []Node{{Left: -1}, {Left: -1}, {Left: 112}})
}

// P9.1: All comes to nodes that are added on the way, however the arena has grown meanwhile, and ends with the limit.
func TestAllGrows(t *testing.T) {
	const limit = 300
	a := filled(t, limit, 1)
	all := a.All()
	count := int32(0)
	for i, n := range all {
		count++
		if i != count || n.Left != i {
			t.Fatalf("%d is %+v as number %d", i, n, count)
		}
		if next, e := a.Alloc(); e == api.OK {
			a.Set(next, Node{Left: next})
		}
	}
	if count != limit || a.Room() != 0 {
		t.Errorf("%d nodes, room for %d", count, a.Room())
	}
}

// P9.1: All of nothing, and what comes behind its call.
func TestAllOfNothing(t *testing.T) {
	a := made(t, 2)
	all := a.All()
	for i, n := range all {
		t.Errorf("%d: %+v", i, n)
	}
	a.Alloc()
	count := 0
	for range all {
		count++
	}
	if count != 1 {
		t.Errorf("%d nodes", count)
	}
}

// P1: an arena that New didn't make has no nodes and no room.
func TestZeroArena(t *testing.T) {
	var a Arena
	if i, e := a.Alloc(); i != 0 || e != api.ErrFull {
		t.Errorf("%d, %d", i, e)
	}
	if _, e := a.Get(1); e != api.ErrNone || a.Set(1, Node{}) != api.ErrNone {
		t.Error("there is no node")
	}
	same(t, &a, 0, nil)
}
