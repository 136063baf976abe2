package duty

import (
	"math"
	"slices"
	"testing"

	"clerestory/api"
	"clerestory/grants"
	"clerestory/ivl"
)

const end = math.MaxUint32

// spans is spans from numbers, two by two.
func spans(n ...uint32) []api.Span {
	var list []api.Span
	for pair := range slices.Chunk(n, 2) {
		list = append(list, api.Span{Lo: pair[0], Hi: pair[1]})
	}
	return list
}

// at is an area of one label.
func at(n ...uint32) [][]api.Span {
	return [][]api.Span{spans(n...)}
}

// under is an area in which one label has spans, and those below it have none.
func under(label int, n ...uint32) [][]api.Span {
	return append(make([][]api.Span, label), spans(n...))
}

// reads is a grant to read.
func reads(tenant int, a [][]api.Span) grants.Grant {
	return grants.Grant{Tenant: tenant, Area: a}
}

// writes is a grant to write.
func writes(tenant int, a [][]api.Span) grants.Grant {
	return grants.Grant{Tenant: tenant, Write: true, Area: a}
}

// like tells whether two areas have as many labels, and for each one the same spans.
func like(a, b [][]api.Span) bool {
	return slices.EqualFunc(a, b, func(x, y []api.Span) bool { return slices.Equal(x, y) })
}

// deep is a list that shares no memory with another one.
func deep(list []grants.Grant) []grants.Grant {
	own := slices.Clone(list)
	for i, g := range own {
		own[i].Area = slices.Clone(g.Area)
		for label, x := range g.Area {
			own[i].Area[label] = slices.Clone(x)
		}
	}
	return own
}

// alike tells whether two lists of grants are the same.
func alike(a, b []grants.Grant) bool {
	return slices.EqualFunc(a, b, func(x, y grants.Grant) bool {
		same := like(x.Area, y.Area)
		return same && x.Parent == y.Parent && x.Holder == y.Holder && x.Tenant == y.Tenant && x.Depth == y.Depth && x.Write == y.Write && x.Expiry == y.Expiry
	})
}

// drawer draws numbers by a rule, the same ones each time.
type drawer uint64

func (d *drawer) below(n int) int {
	*d = *d*6364136223846793005 + 1442695040888963407
	return int(uint64(*d) >> 33 % uint64(n))
}

// edges are the keys at which the spans of the tests begin and end.
func edges() []uint32 {
	return []uint32{0, 1, 2, 3, 4, end - 1, end}
}

// probes are the edges, the other small keys, and keys that stand for all between these and the edges at the end.
func probes() []uint32 {
	return append(edges(), 5, 6, 7, 8, 9, 10, 11, 1<<31, end-2)
}

// area is an area of a few labels, whose spans may be empty, meet, and stand in any order.
func (d *drawer) area() [][]api.Span {
	keys := edges()
	a := make([][]api.Span, d.below(4))
	for i := range a {
		for range d.below(3) {
			a[i] = append(a[i], api.Span{Lo: keys[d.below(len(keys))], Hi: keys[d.below(len(keys))]})
		}
	}
	return a
}

// list is grants of a few tenants; all else than their tenants, kinds and areas is of no matter.
func (d *drawer) list(most int) []grants.Grant {
	var list []grants.Grant
	for range d.below(most + 1) {
		list = append(list, grants.Grant{
			Parent: d.below(3), Holder: d.below(3), Depth: d.below(12) - 2, Expiry: int64(d.below(9) - 4),
			Tenant: d.below(5) - 1, Write: d.below(2) == 0, Area: d.area(),
		})
	}
	return list
}

// in tells whether a key of a label is in an area.
func in(a [][]api.Span, label int, key uint32) bool {
	return label < len(a) && slices.ContainsFunc(a[label], func(s api.Span) bool { return s.Lo <= key && key <= s.Hi })
}

// both tells whether two areas have a key of a label both.
func both(a, b [][]api.Span) bool {
	for label := range a {
		if slices.ContainsFunc(probes(), func(key uint32) bool { return in(a, label, key) && in(b, label, key) }) {
			return true
		}
	}
	return false
}

// pair is two places.
type pair struct{ i, k int }

// wantClashes is the pairs that clash, by the keys that the grants have.
func wantClashes(list []grants.Grant, tenant int) []pair {
	var all []pair
	for k, y := range list {
		for i, x := range list[:k] {
			if x.Tenant == tenant && y.Tenant == tenant && x.Write != y.Write && both(x.Area, y.Area) {
				all = append(all, pair{i, k})
			}
		}
	}
	slices.SortFunc(all, func(x, y pair) int {
		if x.i != y.i {
			return x.i - y.i
		}
		return x.k - y.k
	})
	return all
}

// clashes is the pairs that Clashes tells.
func clashes(list []grants.Grant, tenant int) []pair {
	var all []pair
	for i, k := range Clashes(list, tenant) {
		all = append(all, pair{i, k})
	}
	return all
}

// tenants are numbers of tenants that the lists of the tests have, and that they haven't.
func tenants() []int {
	return []int{math.MinInt, -1 << 32, -2, -1, 0, 1, 2, 3, 4, 16, 1 << 32, math.MaxInt}
}

// sameArea holds an answered area against the grants that it must be made of, key by key.
func sameArea(t *testing.T, got [][]api.Span, list []grants.Grant, tenant int, write bool) {
	t.Helper()
	var areas [][][]api.Span
	labels := 0
	for _, g := range list {
		if g.Tenant == tenant && g.Write == write {
			areas = append(areas, g.Area)
			labels = max(labels, len(g.Area))
		}
	}
	if len(got) != labels {
		t.Fatalf("%d, %v of %+v: %v, not of %d labels", tenant, write, list, got, labels)
	}
	for label, set := range got {
		if !ivl.Right(set) {
			t.Fatalf("%d, %v of %+v: %v, no set", tenant, write, list, set)
		}
		for _, key := range probes() {
			want := slices.ContainsFunc(areas, func(a [][]api.Span) bool { return in(a, label, key) })
			if in(got, label, key) != want {
				t.Fatalf("%d, %v of %+v: %v", tenant, write, list, got)
			}
		}
	}
}

// same holds all that is told of a list against what its keys say.
func same(t *testing.T, list []grants.Grant) {
	t.Helper()
	was := deep(list)
	for _, tenant := range tenants() {
		sameArea(t, Reads(list, tenant), list, tenant, false)
		sameArea(t, Writes(list, tenant), list, tenant, true)
		want := wantClashes(list, tenant)
		if got := clashes(list, tenant); !slices.Equal(got, want) {
			t.Fatalf("Clashes(%+v, %d) = %v, not %v", list, tenant, got, want)
		}
		// P15.2
		if meet := both(Reads(list, tenant), Writes(list, tenant)); meet != (len(want) > 0) {
			t.Fatalf("%d of %+v: %v, with the clashes %v", tenant, list, meet, want)
		}
	}
	for bits := range 1 << 4 {
		for n := range 5 {
			sameCheck(t, list, bits, n)
		}
	}
	if !alike(list, was) {
		t.Fatalf("turned to %+v", list)
	}
}

// sameCheck holds Check against the clashes, for the first n tenants, of which those in bits are restricted.
func sameCheck(t *testing.T, list []grants.Grant, bits, n int) {
	t.Helper()
	want := api.OK
	restricted := make([]bool, n)
	for i := range restricted {
		restricted[i] = bits>>i&1 != 0
		if restricted[i] && len(wantClashes(list, i)) > 0 {
			want = api.ErrDuty
		}
	}
	if e := Check(list, restricted); e != want {
		t.Fatalf("Check(%+v, %v) = %d, not %d", list, restricted, e, want)
	}
}

// P15.1: of no grants nothing is told, whoever is asked for.
func TestNoGrants(t *testing.T) {
	for _, list := range [][]grants.Grant{nil, {}} {
		for _, tenant := range tenants() {
			if len(Reads(list, tenant)) != 0 || len(Writes(list, tenant)) != 0 || len(clashes(list, tenant)) != 0 {
				t.Errorf("%d", tenant)
			}
		}
		for n := range 40 {
			if e := Check(list, slices.Repeat([]bool{true}, n)); e != api.OK {
				t.Errorf("%d: %d", n, e)
			}
		}
		same(t, list)
	}
}

// P15.1: by the numbers themselves, with no model.
func TestByHand(t *testing.T) {
	list := []grants.Grant{reads(0, at(1, 5)), writes(0, at(5, 9)), reads(1, at(1, 99)), writes(0, at(3, 3, 20, 29)), reads(0, at(29, 30, 4, 7)), reads(-1, under(2, 0, end)), writes(16, under(3, end, end))}
	for _, c := range []struct {
		tenant        int
		reads, writes [][]api.Span
	}{
		{0, at(1, 7, 29, 30), at(3, 3, 5, 9, 20, 29)},
		{1, at(1, 99), nil},
		{2, nil, nil}, {-2, nil, nil}, {math.MinInt, nil, nil}, {math.MaxInt, nil, nil},
		{-1, under(2, 0, end), nil},
		{16, nil, under(3, end, end)},
	} {
		if got := Reads(list, c.tenant); !like(got, c.reads) {
			t.Errorf("Reads(%d) = %v", c.tenant, got)
		}
		if got := Writes(list, c.tenant); !like(got, c.writes) {
			t.Errorf("Writes(%d) = %v", c.tenant, got)
		}
	}
	if got := clashes(list, 0); !slices.Equal(got, []pair{{0, 1}, {0, 3}, {1, 4}, {3, 4}}) {
		t.Errorf("%v", got)
	}
	if len(clashes(list, 1)) != 0 || len(clashes(list, -1)) != 0 || len(clashes(list, 16)) != 0 {
		t.Error("clashes of others")
	}
}

// P15.1, P15.2: what meets in one key alone, stands side by side, or is of other labels or tenants.
func TestMeet(t *testing.T) {
	for i, c := range []struct {
		list  []grants.Grant
		clash bool
	}{
		{[]grants.Grant{reads(0, at(1, 5)), writes(0, at(5, 9))}, true},
		{[]grants.Grant{reads(0, at(1, 5)), writes(0, at(6, 9))}, false},
		{[]grants.Grant{reads(0, at(6, 9)), writes(0, at(1, 5))}, false},
		{[]grants.Grant{reads(0, at(1, 9)), writes(0, at(5, 5))}, true},
		{[]grants.Grant{reads(0, at(5, 5)), writes(0, at(5, 5))}, true},
		{[]grants.Grant{reads(0, at(0, 0)), writes(0, at(0, 0))}, true},
		{[]grants.Grant{reads(0, at(end, end)), writes(0, at(end, end))}, true},
		{[]grants.Grant{reads(0, at(0, end-1)), writes(0, at(end, end))}, false},
		{[]grants.Grant{reads(0, at(1, end)), writes(0, at(0, 0))}, false},
		{[]grants.Grant{reads(0, at(0, end)), writes(0, at(0, end))}, true},
		{[]grants.Grant{reads(0, at(1, 3, 7, 9)), writes(0, at(4, 6))}, false},
		{[]grants.Grant{reads(0, at(7, 9, 1, 3)), writes(0, at(4, 6, 9, 12))}, true},
		{[]grants.Grant{reads(0, at(9, 1)), writes(0, at(0, end))}, false},
		{[]grants.Grant{reads(0, at(0, end)), writes(0, at(5, 4, end, 0))}, false},
		{[]grants.Grant{reads(0, nil), writes(0, at(0, end))}, false},
		{[]grants.Grant{reads(0, at()), writes(0, at(0, end))}, false},
		{[]grants.Grant{reads(0, nil), writes(0, nil)}, false},
		{[]grants.Grant{reads(0, at(1, 5)), writes(0, under(1, 1, 5))}, false},
		{[]grants.Grant{reads(0, under(1, 1, 5)), writes(0, at(1, 5))}, false},
		{[]grants.Grant{reads(0, under(1, 1, 5)), writes(0, under(1, 5, 5))}, true},
		{[]grants.Grant{reads(0, under(40, 1, 5)), writes(0, under(40, 5, 5))}, true},
		{[]grants.Grant{reads(0, under(40, 1, 5)), writes(0, under(39, 5, 5))}, false},
		{[]grants.Grant{reads(0, at(1, 5)), writes(1, at(1, 5))}, false},
		{[]grants.Grant{reads(1, at(1, 5)), writes(0, at(1, 5))}, false},
		{[]grants.Grant{reads(0, at(1, 5)), reads(0, at(1, 5))}, false},
		{[]grants.Grant{writes(0, at(1, 5)), writes(0, at(1, 5))}, false},
		{[]grants.Grant{reads(0, at(1, 5))}, false},
		{[]grants.Grant{writes(0, at(1, 5))}, false},
	} {
		want := api.OK
		if c.clash {
			want = api.ErrDuty
		}
		for range 2 {
			if e := Check(c.list, []bool{true}); e != want || (len(clashes(c.list, 0)) == 1) != c.clash {
				t.Errorf("case %d: %d, %v", i, e, clashes(c.list, 0))
			}
			// Whichever stands first is the first one.
			slices.Reverse(c.list)
		}
		same(t, c.list)
	}
}

// P15.1: tenants that are restricted, by lists that are nil, shorter and longer than those that there are.
func TestRestricted(t *testing.T) {
	list := []grants.Grant{writes(2, at(1, 5)), reads(2, at(5, 9)), reads(0, at(1, 9)), writes(1, at(1, 9)), reads(-1, at(1, 9)), writes(-1, at(1, 9)), reads(5, at(1, 1)), writes(5, at(1, 1))}
	for i, c := range []struct {
		restricted []bool
		e          api.Errno
	}{
		{nil, api.OK}, {[]bool{}, api.OK}, {[]bool{true}, api.OK}, {[]bool{true, true}, api.OK},
		{[]bool{true, true, false}, api.OK}, {[]bool{false, false, true}, api.ErrDuty}, {[]bool{true, true, true}, api.ErrDuty},
		{[]bool{true, true, false, true, true}, api.OK}, {[]bool{false, false, false, false, false, true}, api.ErrDuty},
		{[]bool{true, true, false, true, true, false, true, true}, api.OK},
		{slices.Repeat([]bool{true}, 100), api.ErrDuty}, {make([]bool, 100), api.OK},
		{[]bool{true, true, true}[:2], api.OK},
	} {
		if e := Check(list, c.restricted); e != c.e {
			t.Errorf("case %d: %d", i, e)
		}
	}
	// The list tells how many tenants there are, as many as it likes.
	for _, tenant := range []int{0, 1, 15, 16, 17, 63, 64, 1000} {
		list := []grants.Grant{reads(tenant, at(1, 5)), writes(tenant, at(5, 9))}
		restricted := make([]bool, tenant+1)
		if e := Check(list, restricted); e != api.OK {
			t.Errorf("tenant %d: %d", tenant, e)
		}
		restricted[tenant] = true
		if Check(list, restricted) != api.ErrDuty || Check(list, restricted[:tenant]) != api.OK {
			t.Errorf("tenant %d", tenant)
		}
	}
}

// P15.1: many grants, of four labels, that stand side by side in each; one key more, and two of them clash.
func TestUnionOfParts(t *testing.T) {
	var list []grants.Grant
	for key := range uint32(60) {
		list = append(list, reads(3, under(int(key%4), 2*key, 2*key)), writes(3, under(int(key%4), 2*key+1, 2*key+1)))
	}
	list = append(list, reads(3, at(1000, 2000)))
	if e := Check(list, []bool{true, true, true, true}); e != api.OK || len(clashes(list, 3)) != 0 {
		t.Errorf("%d, %v", e, clashes(list, 3))
	}
	list = append(list, writes(3, under(3, 6, 6)))
	if e := Check(list, []bool{false, false, false, true}); e != api.ErrDuty || !slices.Equal(clashes(list, 3), []pair{{6, 121}}) {
		t.Errorf("%d, %v", e, clashes(list, 3))
	}
	if got := Reads(list, 3); len(got) != 4 || len(got[0]) != 16 || len(got[3]) != 15 {
		t.Errorf("%v", got)
	}
}

// P15.1, P15.2: lists that are drawn, with areas that are no sets.
func TestDrawn(t *testing.T) {
	d := drawer(1)
	for range 1500 {
		same(t, d.list(8))
	}
}

// P15.1: clashes are gone through till each place and stopped, and gone through again, one within the other, too.
func TestStopped(t *testing.T) {
	d := drawer(7)
	for range 50 {
		list := d.list(14)
		for tenant := range 4 {
			all := Clashes(list, tenant)
			want := wantClashes(list, tenant)
			for stop := range want {
				n := 0
				for i, k := range all {
					if want[n] != (pair{i, k}) {
						t.Fatalf("%d: %d, %d, not %v", n, i, k, want[n])
					}
					if n == stop {
						break
					}
					n++
				}
				if n != stop {
					t.Fatalf("stopped at %d, not at %d", n, stop)
				}
			}
			n := 0
			for range all {
				for range all {
					n++
				}
			}
			if n != len(want)*len(want) {
				t.Fatalf("%d within each other, not %d times %d", n, len(want), len(want))
			}
		}
	}
}

// P2: what is handed in may be written over behind the call, and isn't turned, neither behind its end.
func TestHandedInIsFree(t *testing.T) {
	memory := spans(1, 5, 8, 9, 3, 3, 50, 60)
	areas := [][]api.Span{memory[:2], memory[:3], memory[3:]}
	room := []grants.Grant{reads(0, areas[:1]), writes(0, areas[:2]), reads(0, areas), writes(0, areas[2:]), writes(7, areas)}
	list := room[:3]
	was := deep(room)
	first, second := Reads(list, 0), Writes(list, 0)
	all := Clashes(list, 0)
	if e := Check(list, []bool{true}); e != api.ErrDuty || !alike(room, was) || !slices.Equal(memory, spans(1, 5, 8, 9, 3, 3, 50, 60)) {
		t.Errorf("%d: turned to %+v, %v", e, room, memory)
	}
	for i := range memory {
		memory[i] = api.Span{Lo: 9, Hi: 1}
	}
	clear(areas)
	clear(room)
	if !like(first, [][]api.Span{spans(1, 5, 8, 9), spans(1, 5, 8, 9), spans(50, 60)}) || !like(second, [][]api.Span{spans(1, 5, 8, 9), spans(1, 5, 8, 9)}) {
		t.Errorf("%v, %v", first, second)
	}
	var got []pair
	for i, k := range all {
		got = append(got, pair{i, k})
	}
	if !slices.Equal(got, []pair{{0, 1}, {1, 2}}) {
		t.Errorf("%v", got)
	}
}

// P2: what is answered is the caller's own, its spare room too.
func TestAnsweredIsFree(t *testing.T) {
	list := []grants.Grant{reads(0, [][]api.Span{spans(1, 5), spans(1, 5), spans(1, 5)}), writes(0, [][]api.Span{spans(1, 5), spans(1, 5)})}
	was := deep(list)
	for range 2 {
		for i, got := range [][][]api.Span{Reads(list, 0), Writes(list, 0)} {
			if !like(got, was[i].Area) {
				t.Errorf("%v", got)
			}
			whole := got[:cap(got)]
			for label := range whole {
				// What is written to one label's list and its room turns no other one's.
				set := whole[label][:cap(whole[label])]
				for j := range set {
					set[j] = api.Span{Lo: uint32(label), Hi: 77}
				}
				if label+1 < len(got) && !slices.Equal(got[label+1], spans(1, 5)) {
					t.Errorf("label %d turned to %v", label+1, got[label+1])
				}
			}
			clear(whole)
		}
		if !alike(list, was) {
			t.Errorf("turned to %+v", list)
		}
	}
}

// P1: long lists end.
func TestLong(t *testing.T) {
	var list []grants.Grant
	for i := range uint32(20000) {
		list = append(list, reads(int(i%2), at(4*i, 4*i)), writes(int(i%2), at(4*i+2, 4*i+2)))
	}
	if got := Reads(list, 1); len(got) != 1 || len(got[0]) != 10000 {
		t.Errorf("%d", len(got))
	}
	if e := Check(list, []bool{true, true}); e != api.OK {
		t.Errorf("%d", e)
	}
	list = append(list, reads(1, at(6, 6)))
	if e := Check(list, []bool{true, true}); e != api.ErrDuty {
		t.Errorf("%d", e)
	}
}
