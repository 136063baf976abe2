package policy

import (
	"math"
	"slices"
	"testing"

	"clerestory/api"
	"clerestory/grants"
	"clerestory/ivl"
)

const end = math.MaxUint32

// spans is spans from numbers, two by two.
func spans(n ...uint32) []api.Span {
	var list []api.Span
	for pair := range slices.Chunk(n, 2) {
		list = append(list, api.Span{Lo: pair[0], Hi: pair[1]})
	}
	return list
}

// at is an area of one label.
func at(n ...uint32) [][]api.Span {
	return [][]api.Span{spans(n...)}
}

// whole is the area of all keys of so many labels.
func whole(labels int) [][]api.Span {
	return slices.Repeat(at(0, end), labels)
}

// like tells whether two areas have as many labels, and for each one the same spans.
func like(a, b [][]api.Span) bool {
	return slices.EqualFunc(a, b, func(x, y []api.Span) bool { return slices.Equal(x, y) })
}

// deep is an area that shares no memory with another one.
func deep(a [][]api.Span) [][]api.Span {
	var own [][]api.Span
	for _, list := range a {
		own = append(own, slices.Concat(list))
	}
	return own
}

// must is a policy that is right.
func must(t *testing.T, labels int, tenants []Tenant, people []Person, roots ...grants.Grant) *Policy {
	t.Helper()
	p, e := New(labels, tenants, people, roots)
	if e != api.OK || p == nil {
		t.Fatalf("New: %d", e)
	}
	return p
}

// drawer draws numbers by a rule, the same ones each time.
type drawer uint64

func (d *drawer) below(n int) int {
	*d = *d*6364136223846793005 + 1442695040888963407
	return int(uint64(*d) >> 33 % uint64(n))
}

// edges are the keys at which the spans of the tests begin and end.
func edges() []uint32 {
	return []uint32{0, 1, 2, 3, 4, end - 1, end}
}

// probes are the edges, the other small keys, and keys that stand for all between these and the edges at the end.
func probes() []uint32 {
	return append(edges(), 5, 6, 7, 8, 9, 10, 1<<31, end-2)
}

// area is an area of a few labels, whose spans may be empty, meet, and stand in any order.
func (d *drawer) area() [][]api.Span {
	keys := edges()
	a := make([][]api.Span, d.below(4))
	for i := range a {
		for range d.below(3) {
			a[i] = append(a[i], api.Span{Lo: keys[d.below(len(keys))], Hi: keys[d.below(len(keys))]})
		}
	}
	return a
}

// part is an area that has mostly nothing that another one hasn't.
func (d *drawer) part(a [][]api.Span) [][]api.Span {
	b := deep(a)
	if d.below(5) == 0 {
		return d.area()
	}
	for i := range b {
		if len(b[i]) > 0 && d.below(4) == 0 {
			b[i] = b[i][1:]
		}
	}
	return b
}

// in tells whether a key of a label is in an area.
func in(a [][]api.Span, label int, key uint32) bool {
	return label < len(a) && slices.ContainsFunc(a[label], func(s api.Span) bool { return s.Lo <= key && key <= s.Hi })
}

// both tells whether two areas have a key of a label both.
func both(a, b [][]api.Span) bool {
	for label := range a {
		if slices.ContainsFunc(probes(), func(key uint32) bool { return in(a, label, key) && in(b, label, key) }) {
			return true
		}
	}
	return false
}

// model is what a policy must be: its tenants and people, and all grants with what became of them.
type model struct {
	labels  int
	tenants []Tenant
	people  []Person
	grants  []grants.Grant
	revoked map[int]int
}

func (m *model) person(i int) bool { return i >= 0 && i < len(m.people) }
func (m *model) grant(i int) bool  { return i >= 1 && i <= len(m.grants) }

// newError is the error of New, of a model that has no grants yet, and the roots that are put in it.
func (m *model) newError(roots []grants.Grant) api.Errno {
	if m.labels < 1 || m.labels > 16 {
		return api.ErrArg
	}
	if len(m.tenants) < 1 || len(m.tenants) > 16 || len(m.people) < 1 || len(m.people) > 64 {
		return api.ErrMany
	}
	for _, x := range m.people {
		if x.Tenant < 0 || x.Tenant >= len(m.tenants) {
			return api.ErrNone
		}
	}
	for i, g := range roots {
		switch {
		case !m.person(g.Holder):
			return api.ErrNone
		case m.people[g.Holder].Tenant != g.Tenant:
			return api.ErrRight
		case g.Parent != 0 || g.Expiry < 0:
			return api.ErrArg
		case g.Depth < 0 || g.Depth > 8:
			return api.ErrDepth
		case i >= 256:
			return api.ErrMany
		}
	}
	for _, x := range roots {
		for _, y := range roots {
			if x.Tenant == y.Tenant && m.tenants[x.Tenant].Restricted && !x.Write && y.Write && both(x.Area, y.Area) {
				return api.ErrDuty
			}
		}
	}
	return api.OK
}

// valid tells whether a grant that is there, and each one that it was handed on from, is valid.
func (m *model) valid(id int, now int64) bool {
	for ; id != 0; id = m.grants[id-1].Parent {
		if x := m.grants[id-1].Expiry; m.revoked[id] > 0 || x != 0 && x <= now {
			return false
		}
	}
	return true
}

// may is the areas that a person's number has, those to write, or to read.
func (m *model) may(person int, write bool, now int64) [][][]api.Span {
	if !m.person(person) {
		return nil
	}
	if !write && m.tenants[m.people[person].Tenant].Auditor {
		return [][][]api.Span{whole(m.labels)}
	}
	var areas [][][]api.Span
	for i, g := range m.grants {
		if g.Holder == person && g.Write == write && m.valid(i+1, now) {
			areas = append(areas, g.Area)
		}
	}
	return areas
}

// handError is the error of handing on, as the chapters name them.
func (m *model) handError(person, parent, to int, a [][]api.Span, expiry, now int64) api.Errno {
	if !m.grant(parent) {
		return api.ErrNone
	}
	g := m.grants[parent-1]
	switch {
	case g.Holder != person:
		return api.ErrRight
	case !m.person(to):
		return api.ErrNone
	case m.people[to].Tenant != m.people[person].Tenant:
		return api.ErrRight
	case !m.valid(parent, now):
		return api.ErrGone
	case g.Depth == 0:
		return api.ErrDepth
	case expiry < 0:
		return api.ErrArg
	case m.beyond(a, g.Area):
		return api.ErrRange
	case len(m.grants) >= 256:
		return api.ErrMany
	}
	return api.OK
}

// beyond tells whether an area has a key that another one hasn't.
func (m *model) beyond(a, b [][]api.Span) bool {
	for label := range a {
		if slices.ContainsFunc(probes(), func(key uint32) bool { return in(a, label, key) && !in(b, label, key) }) {
			return true
		}
	}
	return false
}

// revokeError is the error of revoking.
func (m *model) revokeError(person, id int) api.Errno {
	if !m.grant(id) {
		return api.ErrNone
	}
	if m.person(person) && m.people[person].Admin {
		return api.OK
	}
	if parent := m.grants[id-1].Parent; parent == 0 || m.grants[parent-1].Holder != person {
		return api.ErrRight
	}
	return api.OK
}

// twin is a policy, and what it must be.
type twin struct {
	t *testing.T
	p *Policy
	m *model
}

// newTwin makes a policy of a model's tenants and people; false: it was refused, as it must be.
func newTwin(t *testing.T, m *model, roots []grants.Grant) (*twin, bool) {
	t.Helper()
	want := m.newError(roots)
	p, e := New(m.labels, m.tenants, m.people, roots)
	if e != want || (p == nil) != (e != api.OK) {
		t.Fatalf("New of %+v with %+v: %d, not %d", m, roots, e, want)
	}
	m.grants, m.revoked = slices.Clone(roots), map[int]int{}
	return &twin{t, p, m}, e == api.OK
}

func (w *twin) hand(person, parent, to int, a [][]api.Span, expiry, now int64) {
	w.t.Helper()
	want := w.m.handError(person, parent, to, a, expiry, now)
	id, e := w.p.Hand(person, parent, to, a, expiry, now)
	if e != want || (id == 0) != (e != api.OK) {
		w.t.Fatalf("Hand(%d, %d, %d, %v, %d, %d) = %d, %d, not %d", person, parent, to, a, expiry, now, id, e, want)
	}
	if e != api.OK {
		return
	}
	g := w.m.grants[parent-1]
	w.m.grants = append(w.m.grants, grants.Grant{Parent: parent, Holder: to, Tenant: g.Tenant, Depth: g.Depth - 1, Write: g.Write, Area: deep(a), Expiry: expiry})
	if id != len(w.m.grants) {
		w.t.Fatalf("number %d of %d", id, len(w.m.grants))
	}
}

func (w *twin) revoke(person, id int) {
	w.t.Helper()
	want := w.m.revokeError(person, id)
	if e := w.p.Revoke(person, id); e != want {
		w.t.Fatalf("Revoke(%d, %d) = %d, not %d", person, id, e, want)
	}
	if want == api.OK {
		w.m.revoked[id]++
	}
}

// same holds all that is told of a policy against its model.
func (w *twin) same(now int64) {
	w.t.Helper()
	for person := -2; person < len(w.m.people)+2; person++ {
		w.sameArea(person, now, false, w.p.Reads(person, now))
		w.sameArea(person, now, true, w.p.Writes(person, now))
		w.sameMay(person)
		x, e := w.p.Person(person)
		if there := w.m.person(person); there != (e == api.OK) || !there && (e != api.ErrNone || x != Person{}) || there && x != w.m.people[person] {
			w.t.Fatalf("Person(%d) = %+v, %d", person, x, e)
		}
	}
	for tenant := -2; tenant < len(w.m.tenants)+2; tenant++ {
		w.sameTenant(tenant)
	}
	f := w.p.Grants()
	if f.Len() != len(w.m.grants) {
		w.t.Fatalf("%d grants, not %d", f.Len(), len(w.m.grants))
	}
	for i, want := range w.m.grants {
		g, _ := f.Get(i + 1)
		if g.Parent != want.Parent || g.Holder != want.Holder || g.Tenant != want.Tenant || g.Depth != want.Depth || g.Write != want.Write || g.Expiry != want.Expiry || !like(g.Area, want.Area) {
			w.t.Fatalf("grant %d: %+v, not %+v", i+1, g, want)
		}
		if f.Valid(i+1, now) != w.m.valid(i+1, now) {
			w.t.Fatalf("grant %d at %d", i+1, now)
		}
	}
}

// sameArea holds where a person may against the model, key by key.
func (w *twin) sameArea(person int, now int64, write bool, got [][]api.Span) {
	w.t.Helper()
	areas := w.m.may(person, write, now)
	labels := 0
	for _, a := range areas {
		labels = max(labels, len(a))
	}
	if len(got) != labels {
		w.t.Fatalf("%d at %d, %v: %v, not of %d labels", person, now, write, got, labels)
	}
	for label, set := range got {
		for _, key := range probes() {
			want := slices.ContainsFunc(areas, func(a [][]api.Span) bool { return in(a, label, key) })
			if in(got, label, key) != want || !ivl.Right(set) {
				w.t.Fatalf("%d at %d, %v: %v, of %v", person, now, write, got, areas)
			}
		}
	}
}

// sameMay holds what kinds of numbers a person may be told.
func (w *twin) sameMay(person int) {
	w.t.Helper()
	for kind := -2; kind < 8; kind++ {
		want := api.OK
		if !w.m.person(person) {
			want = api.ErrNone
		} else if kind < 0 || kind > 4 {
			want = api.ErrForm
		} else if x := w.m.tenants[w.m.people[person].Tenant]; x.Restricted && !x.Extrema && kind >= 3 {
			want = api.ErrExtrem
		}
		if e := w.p.May(person, kind); e != want {
			w.t.Fatalf("May(%d, %d) = %d, not %d", person, kind, e, want)
		}
	}
}

// sameTenant holds what is told of a tenant, and who its people are.
func (w *twin) sameTenant(tenant int) {
	w.t.Helper()
	there := tenant >= 0 && tenant < len(w.m.tenants)
	x, e := w.p.Tenant(tenant)
	if there != (e == api.OK) || !there && (e != api.ErrNone || x != Tenant{}) || there && x != w.m.tenants[tenant] {
		w.t.Fatalf("Tenant(%d) = %+v, %d", tenant, x, e)
	}
	var want []int
	for i, y := range w.m.people {
		if y.Tenant == tenant {
			want = append(want, i)
		}
	}
	if got := slices.Collect(w.p.Members(tenant)); !slices.Equal(got, want) {
		w.t.Fatalf("Members(%d) = %v, not %v", tenant, got, want)
	}
}

// apart holds that no one of a restricted tenant may read what one of its people may write (P16.2); what an auditor reads is no matter of grants.
func (w *twin) apart(now int64) {
	w.t.Helper()
	for i, x := range w.m.tenants {
		if !x.Restricted || x.Auditor {
			continue
		}
		for reader := range w.p.Members(i) {
			for writer := range w.p.Members(i) {
				if r, wr := w.p.Reads(reader, now), w.p.Writes(writer, now); both(r, wr) {
					w.t.Fatalf("%d reads %v, and %d writes %v", reader, r, writer, wr)
				}
			}
		}
	}
}

// model is one of a few tenants and people, with roots that are mostly right.
func (d *drawer) model() (*model, []grants.Grant) {
	m := &model{labels: 1 + d.below(4)}
	for range 1 + d.below(3) {
		m.tenants = append(m.tenants, Tenant{d.below(2) == 0, d.below(2) == 0, d.below(4) == 0, d.below(9), d.below(9), d.below(9), d.below(9)})
	}
	for i := range 1 + d.below(6) {
		m.people = append(m.people, Person{d.below(len(m.tenants)), d.below(4) == 0, uint64(i)})
	}
	var roots []grants.Grant
	for range d.below(5) {
		holder := d.below(len(m.people))
		roots = append(roots, grants.Grant{Holder: holder, Tenant: m.people[holder].Tenant, Depth: d.below(4), Write: d.below(2) == 0, Area: d.area(), Expiry: int64(d.below(3) * 4)})
	}
	d.spoil(m, roots)
	return m, roots
}

// spoil sets a thing or two wrong, now and then.
func (d *drawer) spoil(m *model, roots []grants.Grant) {
	for range d.below(3) {
		switch d.below(12) {
		case 0:
			m.labels = []int{0, 17}[d.below(2)]
		case 1:
			m.people[d.below(len(m.people))].Tenant = []int{-1, len(m.tenants)}[d.below(2)]
		}
		if len(roots) == 0 {
			continue
		}
		g := &roots[d.below(len(roots))]
		switch d.below(20) {
		case 0:
			g.Holder = []int{-1, len(m.people)}[d.below(2)]
		case 1:
			g.Tenant += d.below(3) - 1
		case 2:
			g.Parent = d.below(3) - 1
		case 3:
			g.Depth = []int{-1, 9}[d.below(2)]
		case 4:
			g.Expiry = -1
		}
	}
}

// P16.1, P16.2: policies that are drawn, and calls in every order.
func TestDrawn(t *testing.T) {
	d := drawer(3)
	right, refused := 0, 0
	for range 3000 {
		m, roots := d.model()
		w, ok := newTwin(t, m, roots)
		if !ok {
			refused++
			continue
		}
		right++
		for range 12 {
			person, id, now := d.below(len(m.people)+2)-1, d.below(len(m.grants)+2), int64(d.below(11)-1)
			if d.below(4) > 0 && m.grant(id) {
				person = m.grants[id-1].Holder
			}
			if d.below(4) == 0 {
				w.revoke(person, id)
				continue
			}
			a := d.area()
			if m.grant(id) {
				a = d.part(m.grants[id-1].Area)
			}
			w.hand(person, id, d.below(len(m.people)+2)-1, a, int64(d.below(7)-1), now)
			w.apart(now)
		}
		for _, now := range []int64{math.MinInt64, 0, 4, 8, math.MaxInt64} {
			w.same(now)
			w.apart(now)
		}
	}
	if right < 300 || refused < 300 {
		t.Errorf("%d right, %d refused", right, refused)
	}
}

// P16.1: by the numbers themselves, with no model.
func TestByHand(t *testing.T) {
	tenants := []Tenant{{Restricted: true, K: 3, R: 1, B: 2, Quota: 9}, {Auditor: true}, {}}
	people := []Person{{Secret: 5}, {}, {Tenant: 1, Admin: true}, {Tenant: 2}}
	p := must(t, 2, tenants, people, grants.Grant{Depth: 2, Area: at(1, 9), Expiry: 50}, grants.Grant{Write: true, Depth: 1, Area: at(10, 29)}, grants.Grant{Holder: 3, Tenant: 2, Write: true, Area: at(0, end)})
	if id, e := p.Hand(0, 1, 1, at(2, 3), 0, 10); id != 4 || e != api.OK {
		t.Fatalf("%d, %d", id, e)
	}
	if id, e := p.Hand(1, 4, 0, at(3, 3), 20, 10); id != 5 || e != api.OK {
		t.Fatalf("%d, %d", id, e)
	}
	if id, e := p.Hand(0, 2, 0, at(10, 10), 0, 10); id != 6 || e != api.OK {
		t.Fatalf("%d, %d", id, e)
	}
	if !like(p.Reads(0, 10), at(1, 9)) || !like(p.Reads(1, 49), at(2, 3)) || len(p.Reads(1, 50)) != 0 || !like(p.Writes(0, 50), at(10, 29)) || len(p.Writes(1, 10)) != 0 {
		t.Error("Reads, Writes")
	}
	if !like(p.Reads(2, 10), whole(2)) || len(p.Writes(2, 10)) != 0 || len(p.Reads(3, 10)) != 0 || !like(p.Writes(3, 10), at(0, end)) {
		t.Error("of others")
	}
	// A grant is revoked by whoever handed it on, or an Admin, and by no one else: not its own holder, nor the one two steps up.
	for i, c := range []struct {
		person, id int
		e          api.Errno
	}{{1, 4, api.ErrRight}, {3, 4, api.ErrRight}, {0, 5, api.ErrRight}, {0, 1, api.ErrRight}, {1, 1, api.ErrRight}, {-1, 1, api.ErrRight}, {4, 5, api.ErrRight}, {1, 5, api.OK}, {1, 5, api.OK}, {0, 4, api.OK}, {2, 1, api.OK}, {2, 3, api.OK}, {2, 7, api.ErrNone}, {2, 0, api.ErrNone}, {2, -1, api.ErrNone}, {9, 9, api.ErrNone}} {
		if e := p.Revoke(c.person, c.id); e != c.e {
			t.Errorf("revoke %d: %d", i, e)
		}
	}
	if len(p.Reads(0, 10)) != 0 || len(p.Reads(1, 10)) != 0 || !like(p.Writes(0, 10), at(10, 29)) || len(p.Writes(3, 10)) != 0 || p.Grants().Len() != 6 {
		t.Error("behind revoking")
	}
	if x, e := p.Tenant(0); e != api.OK || x != tenants[0] {
		t.Errorf("%+v, %d", x, e)
	}
	if x, e := p.Person(0); e != api.OK || x != people[0] {
		t.Errorf("%+v, %d", x, e)
	}
}

// P16.1: labels, tenants and people, as few and as many as may be, and one fewer and one more: the first error.
func TestCounts(t *testing.T) {
	for _, labels := range []int{math.MinInt, -1, 0, 1, 2, 15, 16, 17, 1 << 32, 1<<32 + 1, math.MaxInt} {
		for _, tenants := range []int{0, 1, 2, 15, 16, 17, 1000} {
			for _, people := range []int{0, 1, 2, 63, 64, 65, 1000} {
				for _, tenant := range []int{math.MinInt, -1, 0, tenants - 1, tenants, math.MaxInt} {
					m := &model{labels: labels, tenants: make([]Tenant, tenants), people: make([]Person, people)}
					if people > 0 {
						m.people[people-1].Tenant = tenant
					}
					for _, roots := range [][]grants.Grant{nil, {{Holder: -1}}, {{Holder: people - 1, Tenant: tenant}}} {
						if w, ok := newTwin(t, m, roots); ok {
							w.same(0)
						}
						m.grants = nil
					}
				}
			}
		}
	}
}

// P16.1: of several faults that hold, the first one is told; of two roots, that of the first one.
func TestFirstFault(t *testing.T) {
	faults := []func(g *grants.Grant){
		func(g *grants.Grant) { g.Holder = 3 },
		func(g *grants.Grant) { g.Tenant = 1 },
		func(g *grants.Grant) { g.Expiry = -1 },
		func(g *grants.Grant) { g.Depth = 9 },
	}
	errors := []api.Errno{api.ErrNone, api.ErrRight, api.ErrArg, api.ErrDepth}
	for bits := range 1 << 4 {
		for other := range 1 << 4 {
			roots := []grants.Grant{{Area: at(1, 5)}, {Write: true, Area: at(5, 9)}}
			want := api.ErrDuty
			for i := len(faults) - 1; i >= 0; i-- {
				if other>>i&1 != 0 {
					faults[i](&roots[1])
					want = errors[i]
				}
			}
			for i := len(faults) - 1; i >= 0; i-- {
				if bits>>i&1 != 0 {
					faults[i](&roots[0])
					want = errors[i]
				}
			}
			if bits == 0 && other != 0 {
				// The first root is right, so that the second one's fault is told.
				want = errors[first(other)]
			}
			p, e := New(1, []Tenant{{Restricted: true}, {}}, []Person{{}, {}, {Tenant: 1}}, roots)
			if p != nil || e != want {
				t.Errorf("%b, %b: %d, not %d", bits, other, e, want)
			}
		}
	}
}

// first is the lowest bit's place.
func first(bits int) int {
	i := 0
	for bits>>i&1 == 0 {
		i++
	}
	return i
}

// P16.1: roots that layer 14 refuses, root by root, ahead of what the roots are together.
func TestRoots(t *testing.T) {
	tenants, people := []Tenant{{Restricted: true}, {}}, []Person{{}, {Tenant: 1}}
	clash := []grants.Grant{{Area: at(1, 5)}, {Write: true, Area: at(5, 9)}}
	for i, c := range []struct {
		roots []grants.Grant
		e     api.Errno
	}{
		{nil, api.OK}, {[]grants.Grant{{}}, api.OK}, {clash, api.ErrDuty}, {clash[:1], api.OK}, {clash[1:], api.OK},
		{[]grants.Grant{{Depth: 8, Expiry: math.MaxInt64}}, api.OK}, {[]grants.Grant{{Depth: 9}}, api.ErrDepth}, {[]grants.Grant{{Depth: -1}}, api.ErrDepth},
		{[]grants.Grant{{Parent: 1}}, api.ErrArg}, {[]grants.Grant{{Parent: -1}}, api.ErrArg}, {[]grants.Grant{{}, {Parent: 1}}, api.ErrArg}, {[]grants.Grant{{Expiry: -1}}, api.ErrArg}, {[]grants.Grant{{Expiry: math.MinInt64}}, api.ErrArg},
		{[]grants.Grant{{Holder: -1}}, api.ErrNone}, {[]grants.Grant{{Holder: 2}}, api.ErrNone}, {[]grants.Grant{{Holder: math.MaxInt}}, api.ErrNone}, {[]grants.Grant{{Holder: math.MinInt}}, api.ErrNone}, {[]grants.Grant{{Holder: 1 << 32}}, api.ErrNone},
		{[]grants.Grant{{Holder: 1}}, api.ErrRight}, {[]grants.Grant{{Tenant: 1}}, api.ErrRight}, {[]grants.Grant{{Tenant: -1}}, api.ErrRight}, {[]grants.Grant{{Tenant: 2}}, api.ErrRight}, {[]grants.Grant{{Holder: 1, Tenant: 1}}, api.OK},
		{slices.Concat(clash, []grants.Grant{{Depth: 9}}), api.ErrDepth}, {slices.Concat(clash, []grants.Grant{{Holder: 1}}), api.ErrRight},
		{slices.Concat([]grants.Grant{{Holder: 1}}, clash, []grants.Grant{{Holder: 2}}), api.ErrRight},
		{slices.Concat([]grants.Grant{{Expiry: -1}, {Holder: 2}}), api.ErrArg},
		{[]grants.Grant{{Area: at(1, 5)}, {Write: true, Area: at(6, 9)}}, api.OK},
		{[]grants.Grant{{Area: at(1, 5)}, {Write: true, Area: [][]api.Span{nil, spans(1, 5)}}}, api.OK},
		{[]grants.Grant{{Area: at(1, 5), Expiry: 1}, {Write: true, Area: at(5, 9)}}, api.ErrDuty},
		{[]grants.Grant{{Holder: 1, Tenant: 1, Area: at(1, 5)}, {Write: true, Area: at(1, 5)}}, api.OK},
		{[]grants.Grant{{Holder: 1, Tenant: 1, Area: at(1, 5)}, {Holder: 1, Tenant: 1, Write: true, Area: at(1, 5)}}, api.OK},
		{[]grants.Grant{{Area: at(5, 1)}, {Write: true, Area: at(0, end)}}, api.OK},
		{slices.Repeat([]grants.Grant{{Area: at(1, 2)}}, 256), api.OK}, {slices.Repeat([]grants.Grant{{Area: at(1, 2)}}, 257), api.ErrMany},
		{slices.Concat(slices.Repeat(clash, 128), clash[:1]), api.ErrMany}, {slices.Repeat(clash, 128), api.ErrDuty},
		{slices.Concat(slices.Repeat(clash, 128), []grants.Grant{{Depth: 9}}), api.ErrDepth},
		{slices.Concat(slices.Repeat(clash, 128), []grants.Grant{{}, {Depth: 9}}), api.ErrMany},
		{slices.Concat(slices.Repeat(clash, 128), []grants.Grant{{Holder: 1}}), api.ErrRight},
	} {
		p, e := New(1, tenants, people, c.roots)
		if e != c.e || (p == nil) != (e != api.OK) {
			t.Errorf("case %d: %d", i, e)
		}
		if p != nil && p.Grants().Len() != len(c.roots) {
			t.Errorf("case %d: %d grants", i, p.Grants().Len())
		}
	}
}

// P16.1: an auditor reads all keys of the labels that there are, whatever is granted, and writes what is granted alone.
func TestAuditor(t *testing.T) {
	for labels := 1; labels <= 16; labels++ {
		tenants := []Tenant{{Auditor: true}, {Auditor: true, Restricted: true}, {}}
		p := must(t, labels, tenants, []Person{{}, {Tenant: 1}, {Tenant: 2}, {}},
			grants.Grant{Area: whole(40), Depth: 1, Expiry: 5}, grants.Grant{Write: true, Area: at(3, 4), Depth: 1, Expiry: 5}, grants.Grant{Holder: 1, Tenant: 1, Write: true, Area: at(7, 7)})
		for _, now := range []int64{math.MinInt64, 0, 4, 5, math.MaxInt64} {
			for person, want := range [][][]api.Span{whole(labels), whole(labels), nil, whole(labels), nil} {
				if got := p.Reads(person, now); !like(got, want) {
					t.Fatalf("%d reads %v", person, got)
				}
			}
			for person, want := range [][][]api.Span{at(3, 4), at(7, 7), nil, nil, nil} {
				if got := p.Writes(person, now); !like(got, want) && (person != 0 || now < 5) || person == 0 && now >= 5 && len(got) != 0 {
					t.Fatalf("%d writes %v at %d", person, got, now)
				}
			}
		}
		if len(p.Reads(-1, 0)) != 0 || len(p.Writes(-1, 0)) != 0 || len(p.Reads(math.MinInt, 0)) != 0 || len(p.Reads(math.MaxInt, 0)) != 0 {
			t.Error("of nobody")
		}
	}
}

// P16.1: kinds below and beyond those that there are, for each sort of tenant.
func TestMay(t *testing.T) {
	kinds := []int{math.MinInt, -1 << 32, -1, 0, 1, 2, 3, 4, 5, 1 << 32, 1<<32 + 1, math.MaxInt}
	for bits := range 8 {
		x := Tenant{Restricted: bits&1 != 0, Extrema: bits&2 != 0, Auditor: bits&4 != 0}
		p := must(t, 1, []Tenant{{}, x}, []Person{{}, {Tenant: 1}})
		for _, kind := range kinds {
			want := api.OK
			switch {
			case kind < 0 || kind > 4:
				want = api.ErrForm
			case kind > 2 && (bits == 1 || bits == 5):
				want = api.ErrExtrem
			}
			if e := p.May(1, kind); e != want {
				t.Errorf("%+v, %d: %d, not %d", x, kind, e, want)
			}
			for _, person := range []int{math.MinInt, -1, 2, 1 << 32, 1<<32 + 1, math.MaxInt} {
				if e := p.May(person, kind); e != api.ErrNone {
					t.Errorf("%d, %d: %d", person, kind, e)
				}
			}
		}
	}
}

// P16.1: of several faults of handing on the first one is told, of people and grants that are there and that aren't.
func TestHand(t *testing.T) {
	people := []Person{{}, {}, {Tenant: 1}, {Admin: true}}
	roots := []grants.Grant{{Depth: 1, Area: at(1, 5), Expiry: 10}, {Depth: 0, Area: at(1, 5)}, {Holder: 2, Tenant: 1, Depth: 8, Area: at(1, 5)}, {Depth: 1, Area: at(1, 5), Write: true}}
	for _, full := range []bool{false, true} {
		m := &model{labels: 1, tenants: make([]Tenant, 2), people: people}
		list := slices.Clone(roots)
		for full && len(list) < 256 {
			list = append(list, grants.Grant{Holder: 1})
		}
		w, ok := newTwin(t, m, list)
		if !ok {
			t.Fatal("refused")
		}
		w.revoke(3, 4)
		for _, parent := range []int{math.MinInt, -1, 0, 1, 2, 3, 4, 257, math.MaxInt} {
			for _, person := range []int{math.MinInt, -1, 0, 1, 2, 3, 4, 64, math.MaxInt} {
				for _, to := range []int{math.MinInt, -1, 0, 1, 2, 3, 4, 64, math.MaxInt} {
					for _, now := range []int64{9, 10} {
						for _, expiry := range []int64{-1, 0, 7} {
							for _, a := range [][][]api.Span{nil, at(2, 5), at(1, 6)} {
								was := len(m.grants)
								w.hand(person, parent, to, a, expiry, now)
								if was < len(m.grants) {
									// The next case finds as many as this one.
									w.again()
								}
							}
						}
					}
				}
			}
		}
	}
}

// again begins anew, with the roots alone, and number 4 revoked.
func (w *twin) again() {
	w.same(9)
	var roots []grants.Grant
	for _, g := range w.m.grants {
		if g.Parent == 0 {
			roots = append(roots, g)
		}
	}
	w.p = must(w.t, w.m.labels, w.m.tenants, w.m.people, roots...)
	w.m.grants, w.m.revoked = roots, map[int]int{}
	w.revoke(3, 4)
}

// P16.1: revoking, by everybody and nobody, of every grant and none; person 0 holds nothing that roots were handed on from.
func TestRevoke(t *testing.T) {
	people := []Person{{}, {}, {Tenant: 1, Admin: true}, {Tenant: 1}, {}}
	for _, person := range []int{math.MinInt, -1, 0, 1, 2, 3, 4, 5, 64, 1 << 32, math.MaxInt} {
		for _, id := range []int{math.MinInt, -1, 0, 1, 2, 3, 4, 5, 6, 7, 257, 1<<32 + 1, math.MaxInt} {
			m := &model{labels: 1, tenants: make([]Tenant, 2), people: people}
			w, ok := newTwin(t, m, []grants.Grant{{Depth: 3, Area: at(1, 5), Expiry: 9}, {Holder: 3, Tenant: 1, Depth: 3, Area: at(1, 5)}})
			if !ok {
				t.Fatal("refused")
			}
			w.hand(0, 1, 1, at(1, 4), 0, 0)
			w.hand(1, 3, 4, at(1, 3), 0, 0)
			w.hand(4, 4, 0, at(1, 2), 0, 0)
			w.hand(3, 2, 2, at(1, 2), 0, 0)
			for range 2 {
				w.revoke(person, id)
				w.same(0)
				w.same(9)
			}
			for id := 1; id <= 6; id++ {
				// What goes with another one may be revoked on its own, too, by the same people.
				w.revoke(2, 3)
				w.revoke(person, id)
			}
			w.same(0)
		}
	}
}

// P16.1: the forest is the policy's own: what is done to it is done to the policy, but nobody that isn't there may anything.
func TestGrants(t *testing.T) {
	p := must(t, 1, make([]Tenant, 1), make([]Person, 2), grants.Grant{Depth: 1, Area: at(1, 5)})
	f := p.Grants()
	if id, e := f.Hand(1, 1, at(2, 2), 0, 0); id != 2 || e != api.OK || !like(p.Reads(1, 0), at(2, 2)) {
		t.Errorf("%d, %d", id, e)
	}
	if id, e := p.Hand(0, 1, 1, at(4, 4), 0, 0); id != 3 || e != api.OK || f.Len() != 3 || !f.Valid(3, 0) {
		t.Errorf("%d, %d", id, e)
	}
	for _, write := range []bool{false, true} {
		f.Root(grants.Grant{Holder: 2, Write: write, Area: at(1, 5)})
		f.Root(grants.Grant{Holder: -1, Write: write, Area: at(1, 5)})
	}
	for _, nobody := range []int{-1, 2} {
		if len(p.Reads(nobody, 0)) != 0 || len(p.Writes(nobody, 0)) != 0 {
			t.Errorf("%d: %v, %v", nobody, p.Reads(nobody, 0), p.Writes(nobody, 0))
		}
	}
	f.Revoke(1)
	if len(p.Reads(0, 0)) != 0 || len(p.Reads(1, 0)) != 0 || p.Grants() != f {
		t.Error("revoked")
	}
}

// P16.2: a restricted tenant's people stay apart, down to the last handing on, at the ends of what they have.
func TestApart(t *testing.T) {
	for _, c := range []struct {
		reads, writes [][]api.Span
	}{{at(1, 5), at(6, 9)}, {at(6, 9), at(1, 5)}, {at(0, end-1), at(end, end)}, {at(1, 3, 7, 9), at(4, 6)}, {at(0, end), [][]api.Span{nil, spans(0, end)}}, {whole(3), nil}} {
		m := &model{labels: 2, tenants: []Tenant{{Restricted: true}}, people: make([]Person, 9)}
		w, ok := newTwin(t, m, []grants.Grant{{Depth: 8, Area: c.reads}, {Depth: 8, Write: true, Area: c.writes}})
		if !ok {
			t.Fatal("refused")
		}
		for i := range 8 {
			for _, parent := range []int{2*i + 1, 2*i + 2} {
				for _, a := range [][][]api.Span{c.reads, c.writes} {
					w.hand(i, parent, i+1, a, 0, 0)
				}
				w.hand(i, parent, i+1, whole(3), 0, 0)
			}
			w.apart(0)
		}
		w.same(0)
	}
}

// P16.1: people are gone through till each place and stopped, and gone through again, one within the other, too.
func TestMembers(t *testing.T) {
	var people []Person
	for i := range 64 {
		people = append(people, Person{Tenant: i * i % 3})
	}
	p := must(t, 1, make([]Tenant, 4), people)
	for tenant := -1; tenant < 5; tenant++ {
		all := p.Members(tenant)
		want := slices.Collect(all)
		if !slices.IsSorted(want) || (len(want) > 0) != (tenant == 0 || tenant == 1) {
			t.Errorf("%d: %v", tenant, want)
		}
		for stop := range want {
			var got []int
			for i := range all {
				got = append(got, i)
				if len(got) == stop+1 {
					break
				}
			}
			if !slices.Equal(got, want[:stop+1]) {
				t.Errorf("%v, not %v", got, want[:stop+1])
			}
		}
		n := 0
		for range all {
			for range all {
				n++
			}
		}
		if n != len(want)*len(want) {
			t.Errorf("%d within each other, not %d times %d", n, len(want), len(want))
		}
	}
}

// P2: what is handed in isn't turned, nor kept; what is answered is the caller's own.
func TestMemory(t *testing.T) {
	room := []Tenant{{Restricted: true, K: 2}, {Auditor: true}, {K: 7}}
	crowd := []Person{{Secret: 3}, {Tenant: 1}, {Secret: 9}}
	list := spans(1, 5, 8, 9)
	roots := []grants.Grant{{Depth: 2, Area: [][]api.Span{list, list}}, {Depth: 4}}
	p := must(t, 2, room[:2], crowd[:2], roots[:1]...)
	if !slices.Equal(room, []Tenant{{Restricted: true, K: 2}, {Auditor: true}, {K: 7}}) || !slices.Equal(crowd, []Person{{Secret: 3}, {Tenant: 1}, {Secret: 9}}) || !slices.Equal(list, spans(1, 5, 8, 9)) || roots[1].Depth != 4 {
		t.Errorf("turned to %v, %v, %v", room, crowd, list)
	}
	part := at(2, 3)
	if id, e := p.Hand(0, 1, 0, part, 0, 0); id != 2 || e != api.OK || !like(part, at(2, 3)) {
		t.Errorf("%d, %d, %v", id, e, part)
	}
	clear(room)
	clear(crowd)
	clear(list)
	clear(roots)
	part[0][0] = api.Span{Lo: 77, Hi: 78}
	want := [][]api.Span{spans(1, 5, 8, 9), spans(1, 5, 8, 9)}
	for range 2 {
		for person, area := range [][][]api.Span{want, whole(2)} {
			got := p.Reads(person, 0)
			if !like(got, area) {
				t.Fatalf("%v", got)
			}
			first := got[0][:cap(got[0])]
			for i := range first {
				first[i] = api.Span{Lo: 77, Hi: 78}
			}
			if !slices.Equal(got[1], area[1]) {
				t.Errorf("the other label's turned to %v", got[1])
			}
			clear(got[:cap(got)])
		}
	}
	if x, e := p.Tenant(0); e != api.OK || x != (Tenant{Restricted: true, K: 2}) {
		t.Errorf("%+v, %d", x, e)
	}
	if x, e := p.Person(0); e != api.OK || x != (Person{Secret: 3}) {
		t.Errorf("%+v, %d", x, e)
	}
	if _, e := p.Person(2); e != api.ErrNone {
		t.Errorf("%d", e)
	}
	if g, e := p.Grants().Get(2); e != api.OK || !like(g.Area, at(2, 3)) {
		t.Errorf("%+v, %d", g, e)
	}
}

// P1: a policy that New didn't make has no tenants, people and grants.
func TestZero(t *testing.T) {
	var p Policy
	if _, e := p.Tenant(0); e != api.ErrNone {
		t.Errorf("Tenant: %d", e)
	}
	if _, e := p.Person(0); e != api.ErrNone {
		t.Errorf("Person: %d", e)
	}
	if id, e := p.Hand(0, 1, 0, nil, 0, 0); id != 0 || e != api.ErrNone {
		t.Errorf("Hand: %d, %d", id, e)
	}
	if len(p.Reads(0, 0)) != 0 || len(p.Writes(0, 0)) != 0 || p.May(0, 0) != api.ErrNone || p.Revoke(0, 0) != api.ErrNone || p.Grants().Len() != 0 || len(slices.Collect(p.Members(0))) != 0 {
		t.Error("of nothing")
	}
}
