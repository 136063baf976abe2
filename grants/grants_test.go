package grants

import (
	"iter"
	"math"
	"slices"
	"testing"

	"clerestory/api"
	"clerestory/ivl"
)

const end = math.MaxUint32

// spans is spans from numbers, two by two.
func spans(n ...uint32) []api.Span {
	var list []api.Span
	for pair := range slices.Chunk(n, 2) {
		list = append(list, api.Span{Lo: pair[0], Hi: pair[1]})
	}
	return list
}

// at is an area of one label.
func at(n ...uint32) [][]api.Span {
	return [][]api.Span{spans(n...)}
}

// whole is the area of all keys of so many labels.
func whole(labels int) [][]api.Span {
	return slices.Repeat(at(0, end), labels)
}

// deep is an area that shares no memory with another one.
func deep(a [][]api.Span) [][]api.Span {
	var own [][]api.Span
	for _, list := range a {
		own = append(own, slices.Concat(list))
	}
	return own
}

// like tells whether two areas have as many labels, and for each one the same spans.
func like(a, b [][]api.Span) bool {
	return slices.EqualFunc(a, b, func(x, y []api.Span) bool { return slices.Equal(x, y) })
}

// alike tells whether two grants are the same.
func alike(x, y Grant) bool {
	return x.Parent == y.Parent && x.Holder == y.Holder && x.Tenant == y.Tenant && x.Depth == y.Depth && x.Write == y.Write && x.Expiry == y.Expiry && like(x.Area, y.Area)
}

// drawer draws numbers by a rule, the same ones each time.
type drawer uint64

func (d *drawer) below(n int) int {
	*d = *d*6364136223846793005 + 1442695040888963407
	return int(uint64(*d) >> 33 % uint64(n))
}

// edges are the keys at which the spans of the tests begin and end.
func edges() []uint32 {
	return []uint32{0, 1, 2, 3, 4, end - 1, end}
}

// probes are the edges, the other small keys, and keys that stand for all between these and the edges at the end.
func probes() []uint32 {
	return append(edges(), 5, 6, 7, 8, 9, 10, 11, 1<<31, end-2)
}

// area is an area of a few labels, whose spans may be empty, meet, and stand in any order.
func (d *drawer) area() [][]api.Span {
	keys := edges()
	a := make([][]api.Span, d.below(4))
	for i := range a {
		for range d.below(4) {
			a[i] = append(a[i], api.Span{Lo: keys[d.below(len(keys))], Hi: keys[d.below(len(keys))]})
		}
	}
	return a
}

// part is an area that has mostly nothing that another one hasn't.
func (d *drawer) part(a [][]api.Span) [][]api.Span {
	b := deep(a)
	for i := range b {
		if len(b[i]) > 0 && d.below(3) == 0 {
			b[i] = b[i][:len(b[i])-1]
		}
	}
	switch d.below(6) {
	case 0:
		return append(b, spans(3, 1), nil)
	case 1:
		return append(b, spans(end, end))
	case 2:
		return d.area()
	}
	return b
}

// in tells whether a key of a label is in an area.
func in(a [][]api.Span, label int, key uint32) bool {
	return label < len(a) && slices.ContainsFunc(a[label], func(s api.Span) bool { return s.Lo <= key && key <= s.Hi })
}

// beyond tells whether an area has a key that another one hasn't.
func beyond(a, b [][]api.Span) bool {
	for label := range a {
		for _, key := range probes() {
			if in(a, label, key) && !in(b, label, key) {
				return true
			}
		}
	}
	return false
}

// model is what a forest must be: all grants in order, and the numbers of those that were revoked, as often as they were.
type model struct {
	grants  []Grant
	revoked []int
}

func (m *model) wrong(id int) bool {
	return id < 1 || id > len(m.grants)
}

// line is a grant's number, and those of all that it was handed on from.
func (m *model) line(id int) []int {
	var line []int
	for ; id > 0; id = m.grants[id-1].Parent {
		line = append(line, id)
	}
	return line
}

func (m *model) valid(id int, now int64) bool {
	if m.wrong(id) {
		return false
	}
	return !slices.ContainsFunc(m.line(id), func(id int) bool {
		expiry := m.grants[id-1].Expiry
		return slices.Contains(m.revoked, id) || expiry > 0 && now >= expiry
	})
}

// fault is an error, and whether it applies.
type fault struct {
	is bool
	e  api.Errno
}

// first is the first error that applies.
func first(faults ...fault) api.Errno {
	for _, x := range faults {
		if x.is {
			return x.e
		}
	}
	return api.OK
}

func (m *model) root(g Grant) (int, api.Errno) {
	if e := first(
		fault{g.Parent != 0, api.ErrArg},
		fault{g.Expiry < 0, api.ErrArg},
		fault{g.Depth < 0 || g.Depth > 8, api.ErrDepth},
		fault{len(m.grants) == 256, api.ErrMany},
	); e != api.OK {
		return 0, e
	}
	m.grants = append(m.grants, g)
	return len(m.grants), api.OK
}

func (m *model) hand(parent, holder int, a [][]api.Span, expiry, now int64) (int, api.Errno) {
	if m.wrong(parent) {
		return 0, api.ErrNone
	}
	from := m.grants[parent-1]
	if e := first(
		fault{!m.valid(parent, now), api.ErrGone},
		fault{from.Depth == 0, api.ErrDepth},
		fault{expiry < 0, api.ErrArg},
		fault{beyond(a, from.Area), api.ErrRange},
		fault{len(m.grants) == 256, api.ErrMany},
	); e != api.OK {
		return 0, e
	}
	m.grants = append(m.grants, Grant{parent, holder, from.Tenant, from.Depth - 1, from.Write, a, expiry})
	return len(m.grants), api.OK
}

func (m *model) revoke(id int) api.Errno {
	if m.wrong(id) {
		return api.ErrNone
	}
	m.revoked = append(m.revoked, id)
	return api.OK
}

func (m *model) of(holder int, now int64) []int {
	var ids []int
	for i, g := range m.grants {
		if g.Holder == holder && m.valid(i+1, now) {
			ids = append(ids, i+1)
		}
	}
	return ids
}

// twin is a forest and its model, of which each call is made of both.
type twin struct {
	t *testing.T
	f Forest
	m model
}

func (w *twin) root(g Grant) int {
	w.t.Helper()
	id, e := w.f.Root(g)
	if want, wanted := w.m.root(g); id != want || e != wanted {
		w.t.Fatalf("Root(%+v) = %d, %d, not %d, %d", g, id, e, want, wanted)
	}
	return id
}

func (w *twin) hand(parent, holder int, a [][]api.Span, expiry, now int64) int {
	w.t.Helper()
	id, e := w.f.Hand(parent, holder, a, expiry, now)
	if want, wanted := w.m.hand(parent, holder, a, expiry, now); id != want || e != wanted {
		w.t.Fatalf("Hand(%d, %d, %v, %d, %d) = %d, %d, not %d, %d", parent, holder, a, expiry, now, id, e, want, wanted)
	}
	return id
}

func (w *twin) revoke(id int) {
	w.t.Helper()
	if e, want := w.f.Revoke(id), w.m.revoke(id); e != want {
		w.t.Fatalf("Revoke(%d) = %d, not %d", id, e, want)
	}
}

// strange are numbers that are mostly no grant's.
func (w *twin) strange() []int {
	n := len(w.m.grants)
	return []int{math.MinInt, -1 << 32, -n - 1, -n, -1, 0, n + 1, n + 2, 256, 257, 1 << 32, 1<<32 + 1, math.MaxInt}
}

// same holds all that a forest tells of its grants against its model.
func (w *twin) same(nows ...int64) {
	w.t.Helper()
	if got, want := w.f.Len(), len(w.m.grants); got != want {
		w.t.Fatalf("%d grants, not %d", got, want)
	}
	ids := w.strange()
	for i, want := range w.m.grants {
		ids = append(ids, i+1)
		if got, e := w.f.Get(i + 1); e != api.OK || !alike(got, want) {
			w.t.Fatalf("Get(%d) = %+v, %d, not %+v", i+1, got, e, want)
		}
	}
	for _, id := range ids {
		for _, now := range nows {
			if got, want := w.f.Valid(id, now), w.m.valid(id, now); got != want {
				w.t.Fatalf("Valid(%d, %d) = %v of %+v", id, now, got, w.m)
			}
		}
		if w.m.wrong(id) {
			w.none(id)
		}
	}
}

// none holds that there is no grant of a number.
func (w *twin) none(id int) {
	w.t.Helper()
	if g, e := w.f.Get(id); e != api.ErrNone || !alike(g, Grant{}) {
		w.t.Fatalf("Get(%d) = %+v, %d", id, g, e)
	}
	if e := w.f.Revoke(id); e != api.ErrNone {
		w.t.Fatalf("Revoke(%d) = %d", id, e)
	}
	if id, e := w.f.Hand(id, 1, nil, 0, 0); id != 0 || e != api.ErrNone {
		w.t.Fatalf("handed on: %d, %d", id, e)
	}
}

// sameOf holds what a forest tells of holders against its model.
func (w *twin) sameOf(now int64, holders ...int) {
	w.t.Helper()
	for _, holder := range holders {
		want := w.m.of(holder, now)
		if got := slices.Collect(w.f.Of(holder, now)); !slices.Equal(got, want) {
			w.t.Fatalf("Of(%d, %d): %v, not %v", holder, now, got, want)
		}
		for _, write := range []bool{false, true} {
			w.sameArea(holder, write, now)
		}
	}
}

// sameArea holds a holder's area against the model, key by key; each label's list must be a set.
func (w *twin) sameArea(holder int, write bool, now int64) {
	w.t.Helper()
	var areas [][][]api.Span
	labels := 0
	for _, id := range w.m.of(holder, now) {
		if g := w.m.grants[id-1]; g.Write == write {
			areas = append(areas, g.Area)
			labels = max(labels, len(g.Area))
		}
	}
	got := w.f.Area(holder, write, now)
	if len(got) != labels {
		w.t.Fatalf("Area(%d, %v, %d) = %v, of %d labels", holder, write, now, got, labels)
	}
	for label, list := range got {
		for _, key := range probes() {
			want := slices.ContainsFunc(areas, func(a [][]api.Span) bool { return in(a, label, key) })
			if in(got, label, key) != want || !ivl.Right(list) {
				w.t.Fatalf("Area(%d, %v, %d) = %v, of %v", holder, write, now, got, areas)
			}
		}
	}
}

// P14.1: the zero Forest has no grants, whatever it is asked.
func TestNothing(t *testing.T) {
	w := &twin{t: t}
	w.same(math.MinInt64, -1, 0, 1, math.MaxInt64)
	w.sameOf(0, math.MinInt, -1, 0, 1, math.MaxInt)
	if got := w.f.Area(0, false, 0); len(got) != 0 {
		t.Errorf("%v", got)
	}
}

// P14.1: roots at both ends of what may be, and beyond them; a root may be anybody's, of any tenant.
func TestRoots(t *testing.T) {
	w := &twin{t: t}
	for _, parent := range []int{0, 1, -1, 2, math.MinInt, math.MaxInt, 1 << 32} {
		for _, expiry := range []int64{0, 1, -1, api.MaxTime, api.MaxTime + 1, math.MinInt64, math.MaxInt64, -1 << 32} {
			for _, depth := range []int{0, 8, -1, 9, 1, 7, math.MinInt, math.MaxInt, 1 << 32, 1<<32 + 1, -1 << 32} {
				w.root(Grant{Parent: parent, Holder: 1, Tenant: 2, Depth: depth, Write: depth == 1, Area: at(1, 2), Expiry: expiry})
			}
		}
	}
	for _, n := range []int{math.MinInt, -1, 0, 1, 1 << 32, math.MaxInt} {
		w.root(Grant{Holder: n, Tenant: -n})
		w.sameOf(0, n)
	}
	w.same(math.MinInt64, 0, 1, api.MaxTime, math.MaxInt64)
	w.sameOf(0, 1, 2)
}

// P14.1: by the numbers themselves, with no model.
func TestByHand(t *testing.T) {
	var f Forest
	if id, e := f.Root(Grant{Holder: 3, Tenant: 4, Depth: 1, Area: at(1, 9)}); id != 1 || e != api.OK {
		t.Fatalf("%d, %d", id, e)
	}
	if id, e := f.Hand(1, 5, at(2, 3), 20, 10); id != 2 || e != api.OK {
		t.Fatalf("%d, %d", id, e)
	}
	if id, e := f.Hand(2, 5, at(2, 3), 20, 10); id != 0 || e != api.ErrDepth {
		t.Errorf("%d, %d", id, e)
	}
	if g, e := f.Get(2); e != api.OK || !alike(g, Grant{1, 5, 4, 0, false, at(2, 3), 20}) {
		t.Errorf("%+v, %d", g, e)
	}
	if !f.Valid(2, 19) || f.Valid(2, 20) || !f.Valid(1, 20) || f.Len() != 2 {
		t.Error("valid")
	}
	if got := f.Area(5, false, 10); !like(got, at(2, 3)) || len(f.Area(5, true, 10)) != 0 || len(f.Area(3, false, 10)) != 1 {
		t.Errorf("%v", got)
	}
	if f.Revoke(1) != api.OK || f.Valid(2, 10) || len(f.Area(5, false, 10)) != 0 {
		t.Error("revoked")
	}
	if id, e := f.Hand(1, 5, nil, 0, 10); id != 0 || e != api.ErrGone {
		t.Errorf("%d, %d", id, e)
	}
}

// P14.1: an expiry that is behind, now, and ahead, at all times.
func TestExpiry(t *testing.T) {
	times := []int64{math.MinInt64, -1, 0, 1, 2, 9, 10, 11, api.MaxTime - 1, api.MaxTime, api.MaxTime + 1, math.MaxInt64 - 1, math.MaxInt64}
	w := &twin{t: t}
	for _, expiry := range times {
		w.root(Grant{Depth: 8, Expiry: expiry})
	}
	roots := w.f.Len()
	w.same(times...)
	// What is handed on may expire later than its parent by its own number, or be over at once.
	for id := 1; id <= roots; id++ {
		for i, expiry := range times {
			w.hand(id, 7, nil, expiry, times[len(times)-1-i])
		}
	}
	w.same(times...)
	for _, now := range times {
		w.sameOf(now, 0, 7)
	}
}

// P14.1: of several faults that hold, the first one is told, with room for more grants and with none.
func TestFirstFault(t *testing.T) {
	for _, full := range []bool{false, true} {
		w := &twin{t: t}
		w.root(Grant{Depth: 1, Area: at(1, 5), Expiry: 10})
		w.root(Grant{Depth: 0, Area: at(1, 5), Expiry: 10})
		w.root(Grant{Depth: 1, Area: at(1, 5)})
		w.root(Grant{Depth: 0, Area: at(1, 5)})
		w.revoke(3)
		w.revoke(4)
		for full && w.f.Len() < api.MaxGrants {
			w.root(Grant{})
		}
		was := w.f.Len()
		for _, parent := range []int{-1, 0, 1, 2, 3, 4, 257, 1000} {
			for _, now := range []int64{9, 10} {
				for _, expiry := range []int64{-1, 0} {
					for _, a := range [][][]api.Span{nil, at(1, 5), at(1, 6)} {
						w.hand(parent, 1, a, expiry, now)
					}
				}
			}
		}
		for _, parent := range []int{0, 1} {
			for _, expiry := range []int64{-1, 0} {
				for _, depth := range []int{-1, 9, 0} {
					w.root(Grant{Parent: parent, Depth: depth, Expiry: expiry})
				}
			}
		}
		if full != (w.f.Len() == was) {
			t.Errorf("full: %v, and there are %d, where %d were", full, w.f.Len(), was)
		}
		w.same(9, 10)
	}
}

// P14.1: the last grant that may be, and one more, in roots, and in those that are handed on; revoked ones are there, too.
func TestMany(t *testing.T) {
	w := &twin{t: t}
	if id := w.root(Grant{Depth: 8, Area: whole(2)}); id != 1 {
		t.Fatalf("%d", id)
	}
	for i := 2; i <= api.MaxGrants; i++ {
		id := 0
		if i%2 == 0 {
			id = w.hand(1, i%5, at(uint32(i), end), int64(i), 1)
		} else {
			id = w.root(Grant{Holder: i % 5, Depth: i % 9})
		}
		if id != i {
			t.Fatalf("%d, not %d", id, i)
		}
	}
	for range 2 {
		if id, e := w.f.Root(Grant{}); id != 0 || e != api.ErrMany {
			t.Errorf("one more root: %d, %d", id, e)
		}
		if id, e := w.f.Hand(1, 1, nil, 0, 0); id != 0 || e != api.ErrMany {
			t.Errorf("one more: %d, %d", id, e)
		}
		for i := 2; i <= api.MaxGrants; i++ {
			w.revoke(i)
		}
		w.same(0, 1, 100, 256)
		w.sameOf(100, 0, 1, 2, 3, 4)
	}
	if !w.f.Valid(1, 0) || w.f.Len() != api.MaxGrants {
		t.Errorf("%d", w.f.Len())
	}
}

// P14.1, P14.2: chains as long as may be: where one of them goes, all behind it go.
func TestChains(t *testing.T) {
	for depth := range api.MaxDepth + 1 {
		for gone := range depth + 2 {
			for _, expires := range []bool{false, true} {
				w := &twin{t: t}
				for i := range depth + 1 {
					expiry := int64(0)
					if expires && i == gone {
						expiry = 5
					}
					if i == 0 {
						w.root(Grant{Holder: 0, Tenant: 3, Write: gone%2 == 0, Depth: depth, Area: at(0, 90), Expiry: expiry})
					} else {
						w.hand(i, i, at(uint32(i), 90), expiry, 4)
					}
				}
				if id, e := w.f.Hand(depth+1, 1, nil, 0, 4); id != 0 || e != api.ErrDepth || w.f.Len() != depth+1 {
					t.Fatalf("one more than %d: %d, %d", depth, id, e)
				}
				if !expires && gone <= depth {
					w.revoke(gone + 1)
				}
				for i := range depth + 1 {
					if got, want := w.f.Valid(i+1, 5), i < gone; got != want {
						t.Fatalf("of %d, with %d gone, that one at %d is %v", depth, gone, i, got)
					}
				}
				w.same(4, 5)
				w.sameOf(5, 0, 1, depth)
			}
		}
	}
}

// P14.2: what is revoked goes with all behind it, and nothing else; revoked again, too.
func TestRevoke(t *testing.T) {
	parents := []int{0, 1, 1, 2, 2, 3, 4, 0, 8, 9}
	behind := [][]int{1: {1, 2, 3, 4, 5, 6, 7}, 2: {2, 4, 5, 7}, 3: {3, 6}, 4: {4, 7}, 5: {5}, 6: {6}, 7: {7}, 8: {8, 9, 10}, 9: {9, 10}, 10: {10}}
	for one := 1; one <= len(parents); one++ {
		for two := 1; two <= len(parents); two++ {
			w := &twin{t: t}
			for _, parent := range parents {
				if parent == 0 {
					w.root(Grant{Depth: 8, Area: at(0, 9)})
				} else {
					w.hand(parent, parent, at(0, 9), 0, 0)
				}
			}
			for _, id := range []int{one, one, two, one} {
				w.revoke(id)
			}
			for id := 1; id <= len(parents); id++ {
				if got, gone := w.f.Valid(id, 0), slices.Contains(slices.Concat(behind[one], behind[two]), id); got == gone {
					t.Fatalf("%d and %d revoked: %d is %v", one, two, id, got)
				}
			}
			w.same(0)
			w.sameOf(0, 0, 1, 2, 3, 4, 8, 9)
		}
	}
}

// P14.2: what is handed on is at most what the parent has: nothing, all of it, one key less and one more, at both ends.
func TestWithin(t *testing.T) {
	own := [][]api.Span{spans(1, 5, 8, 9), nil, spans(end-1, end)}
	for _, c := range []struct {
		a [][]api.Span
		e api.Errno
	}{
		{nil, api.OK}, {[][]api.Span{}, api.OK}, {make([][]api.Span, 40), api.OK}, {at(9, 1), api.OK}, {own, api.OK},
		{[][]api.Span{nil, spans(7, 6), nil, spans(1, 0), nil}, api.OK},
		{append(deep(own), nil, spans(2, 1)), api.OK}, {own[:1], api.OK}, {own[:2], api.OK},
		{at(1, 5), api.OK}, {at(2, 4), api.OK}, {at(9, 9, 8, 8, 5, 5, 1, 4, 3, 4), api.OK}, {at(8, 9, 1, 5), api.OK}, {at(5, 5), api.OK},
		{at(0, 5), api.ErrRange}, {at(1, 6), api.ErrRange}, {at(1, 9), api.ErrRange}, {at(7, 9), api.ErrRange}, {at(8, 10), api.ErrRange}, {at(0, 0), api.ErrRange}, {at(6, 6), api.ErrRange}, {at(1, 5, 7, 7), api.ErrRange},
		{[][]api.Span{nil, spans(1, 1)}, api.ErrRange}, {[][]api.Span{nil, nil, spans(end-2, end)}, api.ErrRange}, {[][]api.Span{nil, nil, spans(end, end)}, api.OK},
		{append(deep(own), spans(0, 0)), api.ErrRange}, {append(deep(own), nil, spans(end, end)), api.ErrRange}, {whole(3), api.ErrRange}, {whole(1), api.ErrRange},
	} {
		w := &twin{t: t}
		w.root(Grant{Depth: 2, Area: own})
		id, e := w.f.Hand(1, 6, c.a, 0, 0)
		if e != c.e || id != 0 != (e == api.OK) {
			t.Errorf("%v: %d, %d, not %d", c.a, id, e, c.e)
			continue
		}
		if g, _ := w.f.Get(id); e == api.OK && !like(g.Area, c.a) {
			t.Errorf("%v: %v", c.a, g.Area)
		}
		if e == api.OK {
			// That one has no more of its own to hand on, though its parent has.
			if id, e := w.f.Hand(2, 6, own, 0, 0); (e == api.OK) == beyond(own, c.a) || e != api.OK && (id != 0 || e != api.ErrRange) {
				t.Errorf("%v of %v: %d, %d", own, c.a, id, e)
			}
		}
	}
	var f Forest
	f.Root(Grant{Depth: 8, Area: whole(2)})
	if id, e := f.Hand(1, 0, whole(2), 0, 0); id != 2 || e != api.OK {
		t.Errorf("%d, %d", id, e)
	}
	if id, e := f.Hand(1, 0, whole(3), 0, 0); id != 0 || e != api.ErrRange {
		t.Errorf("%d, %d", id, e)
	}
}

// P14.1: of a holder's grants those to write and those to read are apart, and other holders' aren't in it.
func TestArea(t *testing.T) {
	w := &twin{t: t}
	w.root(Grant{Holder: 1, Area: [][]api.Span{spans(4, 5), nil, spans(0, 0)}})
	w.root(Grant{Holder: 1, Area: at(1, 3, end, end), Tenant: 9, Expiry: 10})
	w.root(Grant{Holder: 1, Area: at(3, 3, 2, 2), Write: true, Depth: 1})
	w.root(Grant{Holder: 2, Area: whole(5)})
	w.root(Grant{Holder: 2, Area: whole(5), Write: true})
	w.hand(3, 1, at(2, 2), 8, 0)
	w.root(Grant{Holder: 3, Area: make([][]api.Span, 7)})
	for _, c := range []struct {
		holder int
		write  bool
		now    int64
		want   [][]api.Span
	}{
		{1, false, 0, [][]api.Span{spans(1, 5, end, end), nil, spans(0, 0)}},
		{1, false, 9, [][]api.Span{spans(1, 5, end, end), nil, spans(0, 0)}},
		{1, false, 10, [][]api.Span{spans(4, 5), nil, spans(0, 0)}},
		{1, true, 0, at(2, 3)}, {1, true, 10, at(2, 3)},
		{2, false, 0, whole(5)}, {2, true, 0, whole(5)},
		{3, false, 0, make([][]api.Span, 7)}, {3, true, 0, nil}, {0, false, 0, nil}, {4, true, 0, nil}, {-1, false, 0, nil},
	} {
		if got := w.f.Area(c.holder, c.write, c.now); !like(got, c.want) {
			t.Errorf("Area(%d, %v, %d) = %v, not %v", c.holder, c.write, c.now, got, c.want)
		}
	}
	w.revoke(3)
	if got := w.f.Area(1, true, 0); len(got) != 0 {
		t.Errorf("%v", got)
	}
}

// shared is an area whose labels share their memory, with more behind the end of each list.
func shared() (list []api.Span, a [][]api.Span) {
	list = spans(1, 5, 8, 9, 3, 3)
	all := [][]api.Span{list[:2], list[:2], list[:1], list}
	return list, all[:3]
}

// ruin writes over an area, and over the room behind its lists.
func ruin(a [][]api.Span) {
	a = a[:cap(a)]
	for i := range a {
		list := a[i][:cap(a[i])]
		for j := range list {
			list[j] = api.Span{Lo: 77, Hi: end}
		}
		a[i] = nil
	}
}

// P2: what is handed in isn't turned, nor kept: it may be written over.
func TestHandedInIsFree(t *testing.T) {
	want := [][]api.Span{spans(1, 5, 8, 9), spans(1, 5, 8, 9), spans(1, 5)}
	var f Forest
	list, a := shared()
	f.Root(Grant{Depth: 1, Area: a})
	other, b := shared()
	f.Hand(1, 0, b, 0, 0)
	f.Hand(1, 0, append(b, spans(0, 0)), 0, 0)
	for _, x := range [][]api.Span{list, other} {
		if !slices.Equal(x, spans(1, 5, 8, 9, 3, 3)) {
			t.Errorf("turned to %v", x)
		}
	}
	if !like(a, want) || !like(b, want) || !slices.Equal(a[:4][3], list) {
		t.Errorf("turned to %v and %v", a, b)
	}
	ruin(a)
	ruin(b)
	for id := 1; id <= 2; id++ {
		if g, e := f.Get(id); e != api.OK || !like(g.Area, want) {
			t.Errorf("%d: %+v", id, g)
		}
	}
	if got := f.Area(0, false, 0); !like(got, want) {
		t.Errorf("%v", got)
	}
}

// P2: what is answered is the caller's own: a grant that was got, or an area, and then turned, turns nothing.
func TestAnsweredIsOwn(t *testing.T) {
	want := [][]api.Span{spans(1, 5, 8, 9), spans(1, 5, 8, 9), spans(1, 5)}
	var f Forest
	_, a := shared()
	f.Root(Grant{Depth: 1, Area: a})
	f.Hand(1, 1, a, 0, 0)
	for id := 1; id <= 2; id++ {
		for range 2 {
			g, e := f.Get(id)
			if e != api.OK || !like(g.Area, want) {
				t.Errorf("%d: %+v, %d", id, g, e)
			}
			// No two lists of one answer share their memory.
			g.Area[0][0] = api.Span{Lo: 6, Hi: 6}
			if !slices.Equal(g.Area[1], want[1]) || !slices.Equal(g.Area[2], want[2]) {
				t.Errorf("%v", g.Area)
			}
			ruin(g.Area)
			g.Depth, g.Holder, g.Expiry, g.Parent = 7, 7, 1, 2
			own := f.Area(id-1, false, 0)
			if !like(own, want) {
				t.Errorf("%v", own)
			}
			own[0][0] = api.Span{Lo: 6, Hi: 6}
			if !slices.Equal(own[1], want[1]) || !slices.Equal(own[2], want[2]) {
				t.Errorf("%v", own)
			}
			ruin(own)
		}
	}
}

// P14.1: a holder's grants are gone through again, and stopped at any place.
func TestOf(t *testing.T) {
	var f Forest
	for i := range 20 {
		f.Root(Grant{Holder: i % 3, Depth: 1})
	}
	f.Revoke(7)
	want := []int{1, 4, 10, 13, 16, 19}
	seq := f.Of(0, 0)
	for range 2 {
		if got := slices.Collect(seq); !slices.Equal(got, want) {
			t.Errorf("%v", got)
		}
		for stop := range want {
			var got []int
			for id := range seq {
				got = append(got, id)
				if len(got) == stop+1 {
					break
				}
			}
			if !slices.Equal(got, want[:stop+1]) {
				t.Errorf("stopped at %d: %v", stop, got)
			}
		}
	}
	both := []iter.Seq[int]{f.Of(1, 0), f.Of(2, 0)}
	for x := range both[0] {
		for y := range both[1] {
			if x%3 != 2 || y%3 != 0 {
				t.Errorf("%d and %d", x, y)
			}
		}
	}
}

// P14.2: what is revoked while grants are gone through is told no more, with all behind it; what is handed on is told, too, till there may be no more.
func TestOfOnTheWay(t *testing.T) {
	var f Forest
	for range 3 {
		f.Root(Grant{Depth: 1})
	}
	f.Hand(3, 0, nil, 0, 0)
	var got []int
	seq := f.Of(0, 0)
	for id := range seq {
		got = append(got, id)
		f.Revoke(3)
	}
	if !slices.Equal(got, []int{1, 2}) || !slices.Equal(slices.Collect(seq), []int{1, 2}) {
		t.Errorf("%v", got)
	}
	got = nil
	for id := range seq {
		got = append(got, id)
		f.Hand(id, 0, nil, 0, 0)
		f.Root(Grant{Depth: 8})
	}
	if f.Len() != api.MaxGrants || len(got) != api.MaxGrants-2 || !slices.IsSorted(got) {
		t.Errorf("%d of %d: %v", len(got), f.Len(), got)
	}
}

// steps are calls, right ones and wrong ones, of which the tests make all orders.
func steps() []func(w *twin) {
	return []func(w *twin){
		func(w *twin) { w.root(Grant{Holder: 1, Tenant: 1, Depth: 2, Area: at(0, 3), Expiry: 10}) },
		func(w *twin) { w.root(Grant{Holder: 2, Depth: 1, Write: true, Area: at(2, 4)}) },
		func(w *twin) { w.root(Grant{Depth: 9}) },
		func(w *twin) { w.hand(1, 2, at(2, 3), 0, 9) },
		func(w *twin) { w.hand(1, 1, at(2, 4), 9, 0) },
		func(w *twin) { w.hand(2, 1, at(2, 2), 8, 5) },
		func(w *twin) { w.hand(2, 2, nil, 0, 10) },
		func(w *twin) { w.hand(3, 1, at(3, 3), -1, 9) },
		func(w *twin) { w.revoke(1) },
		func(w *twin) { w.revoke(2) },
		func(w *twin) { w.revoke(3) },
	}
}

// P14.1, P14.2: every order of five calls.
func TestEveryOrder(t *testing.T) {
	const calls = 5
	steps := steps()
	orders := 1
	for range calls {
		orders *= len(steps)
	}
	for order := range orders {
		w := &twin{t: t}
		for i, left := 0, order; i < calls; i, left = i+1, left/len(steps) {
			steps[left%len(steps)](w)
		}
		w.same(0, 8, 9, 10)
		if order%7 == 0 {
			w.sameOf(7, 1, 2)
			w.sameOf(10, 1, 2)
		}
	}
}

// P14.1, P14.2: long runs of drawn calls, till there are as many grants as may be.
func TestDrawnOrders(t *testing.T) {
	d := drawer(14)
	nows := []int64{-1, 0, 10, 30, 59, 60}
	for run := range 30 {
		w := &twin{t: t}
		for step := range 500 {
			n := w.f.Len()
			switch kind := d.below(20); {
			case kind < 5:
				w.root(Grant{Parent: d.below(20) / 19, Holder: d.below(4), Tenant: d.below(3), Depth: d.below(11) - 1, Write: d.below(2) == 0, Area: d.area(), Expiry: int64(max(d.below(90)-30, -1))})
			case kind < 6 && run%3 > 0:
				w.revoke(d.below(n+2) + d.below(2))
			default:
				id := d.below(n + 2)
				var parts [][]api.Span
				if id > 0 && id <= n {
					parts = d.part(w.m.grants[id-1].Area)
				}
				w.hand(id, d.below(4), parts, int64(max(d.below(90)-30, -1)), int64(d.below(50)))
			}
			if step%50 == 0 || step == 499 {
				w.same(nows...)
			}
			if step%10 == 0 {
				w.sameOf(nows[d.below(len(nows))], 0, 1, 2, 3, 4)
			}
		}
		w.narrows()
	}
}

// narrows holds that no one has more than whoever handed it on.
func (w *twin) narrows() {
	w.t.Helper()
	for id := 1; id <= w.f.Len(); id++ {
		g, e := w.f.Get(id)
		if e != api.OK {
			w.t.Fatalf("%d: %d", id, e)
		}
		if g.Parent == 0 {
			continue
		}
		from, e := w.f.Get(g.Parent)
		if e != api.OK || g.Parent >= id || beyond(g.Area, from.Area) || g.Write != from.Write || g.Tenant != from.Tenant || g.Depth != from.Depth-1 || g.Depth < 0 {
			w.t.Fatalf("%d: %+v of %+v", id, g, from)
		}
		for _, now := range []int64{0, 30, 60} {
			if w.f.Valid(id, now) && !w.f.Valid(g.Parent, now) {
				w.t.Fatalf("%d is valid at %d, and %d isn't", id, now, g.Parent)
			}
		}
	}
}

// P2: two forests have nothing in common.
func TestApart(t *testing.T) {
	var f, g Forest
	f.Root(Grant{Holder: 1, Depth: 8, Area: at(1, 2)})
	f.Hand(1, 2, at(1, 1), 0, 0)
	if g.Len() != 0 || g.Valid(1, 0) || g.Revoke(1) != api.ErrNone {
		t.Error("there are some")
	}
	if id, e := g.Root(Grant{Holder: 3}); id != 1 || e != api.OK || f.Len() != 2 {
		t.Errorf("%d, %d", id, e)
	}
	g.Revoke(1)
	if !f.Valid(1, 0) || !f.Valid(2, 0) || g.Valid(1, 0) {
		t.Error("revoked")
	}
}
