package pool

import (
	"math"
	"slices"
	"testing"

	"warpbeam/api"
	"warpbeam/mat"
	"warpbeam/set"
	"warpbeam/topo"
)

// outside is numbers that are no slots of any pool: the nearest ones, some that
// a set may hold, some that a cut to fewer bits would take for others, and the
// farthest ones.
var outside = []int{-1, -2, -31, -32, -64, -1 << 32, math.MinInt, 32, 33, 40, 63, 64, 65, 96, 1 << 32, 1<<32 + 5, math.MaxInt}

// high is the part of a row of a graph that is no nodes.
const high set.Set = 0xffffffff00000000

// dice is a row of numbers without a pattern, the same ones in every run.
type dice uint64

func (d *dice) below(n int) int {
	*d = *d*6364136223846793005 + 1442695040888963407
	return int(uint64(*d)>>33) % n
}

// in answers from the bits alone.
func in(s set.Set, i int) bool {
	return i >= 0 && i <= 63 && s>>i&1 == 1
}

// sound answers from the words of the chapter, one after the other.
func sound(p Pool) bool {
	if p.Size < 1 || p.Size > 32 || !topo.Sorted(p.M, p.O) || p.Count < 0 {
		return false
	}
	for i := range 64 {
		if i >= p.Size && (in(p.Live, i) || in(p.Done, i)) || in(p.Live, i) && in(p.Done, i) {
			return false
		}
	}
	for a := range 32 {
		for b := range 32 {
			if in(p.M[a], b) && (free(p, a) || free(p, b)) {
				return false
			}
		}
	}
	return true
}

func free(p Pool, slot int) bool {
	return !in(p.Live, slot) && !in(p.Done, slot)
}

// begin answers from the words of P5.2.
func begin(p Pool) (Pool, int, api.Errno) {
	var l []int
	for slot := 0; slot < p.Size; slot++ {
		if free(p, slot) {
			l = append(l, slot)
		}
	}
	if len(l) == 0 {
		return p, 0, api.ErrFull
	}
	p.Live |= 1 << l[0]
	p.Count++
	p.Ids[l[0]] = p.Count
	for a := 0; a < 32; a++ {
		if in(p.Done, a) {
			p.M, p.O, _ = topo.Insert(p.M, p.O, a, l[0])
		}
	}
	return p, l[0], api.OK
}

// edge answers from the words of P5.3.
func edge(p Pool, a, b int) (Pool, api.Errno) {
	if a == b {
		return p, api.ErrArg
	}
	for _, c := range []int{a, b} {
		if c < 0 || c >= p.Size || free(p, c) {
			return p, api.ErrNone
		}
	}
	m, o, is := topo.Insert(p.M, p.O, a, b)
	if !is {
		return p, api.ErrCycle
	}
	p.M, p.O = m, o
	return p, api.OK
}

// end answers from the words of P5.4.
func end(p Pool, slot int) (Pool, api.Errno) {
	if !in(p.Live, slot) {
		return p, api.ErrNone
	}
	p.Live -= 1 << slot
	p.Done |= 1 << slot
	return p, api.OK
}

// collect answers from the words of P5.5: each time all that may go are put
// into a row, the one with the least Id, in the lowest slot, first.
func collect(p Pool) (Pool, []int) {
	var went []int
	for {
		var may []int
		for a := range 32 {
			comes := false
			for b := range 32 {
				comes = comes || in(p.M[b], a)
			}
			if in(p.Done, a) && !comes {
				may = append(may, a)
			}
		}
		if len(may) == 0 {
			return p, went
		}
		slices.SortStableFunc(may, func(a, b int) int {
			if p.Ids[a] < p.Ids[b] {
				return -1
			}
			return 1
		})
		a := may[0]
		went = append(went, p.Ids[a])
		p.M = mat.Cut(p.M, a)
		p.Done -= 1 << a
		p.Ids[a] = 0
	}
}

// made is a pool of New's.
func made(t *testing.T, size int) Pool {
	t.Helper()
	p, is := New(size)
	if !is {
		t.Fatalf("no pool of %d", size)
	}
	return p
}

// begun is a pool of that size with so many that are Live.
func begun(t *testing.T, size, many int) Pool {
	t.Helper()
	p := made(t, size)
	for range many {
		p = mustBegin(t, p)
	}
	return p
}

func mustBegin(t *testing.T, p Pool) Pool {
	t.Helper()
	q, _, e := Begin(p)
	if e != api.OK {
		t.Fatalf("Begin: %d", e)
	}
	return q
}

func mustEdge(t *testing.T, p Pool, a, b int) Pool {
	t.Helper()
	q, e := Edge(p, a, b)
	if e != api.OK {
		t.Fatalf("Edge %d to %d: %d", a, b, e)
	}
	return q
}

func mustEnd(t *testing.T, p Pool, slots ...int) Pool {
	t.Helper()
	for _, slot := range slots {
		q, e := End(p, slot)
		if e != api.OK {
			t.Fatalf("End of %d: %d", slot, e)
		}
		p = q
	}
	return p
}

// mixed is a sound pool without a pattern, such as calls alone would not make:
// any order, any Ids, free slots with Ids, numbers that are no nodes in its
// rows.
func mixed(d *dice, size int) Pool {
	p := Pool{Size: size, O: topo.New()}
	for a := 31; a > 0; a-- {
		b := d.below(a + 1)
		p.O[a], p.O[b] = p.O[b], p.O[a]
	}
	for a := range 32 {
		p.Ids[a] = d.below(7) - 3
		if a < size {
			switch d.below(5) {
			case 0, 1:
				p.Live |= 1 << a
			case 2, 3:
				p.Done |= 1 << a
			}
		}
	}
	n := 1 + d.below(12)
	for a := range 32 {
		p.M[a] = set.Set(d.below(1<<30)) << 32
		for b := range size {
			if !free(p, a) && !free(p, b) && p.O[a] < p.O[b] && d.below(n) == 0 {
				p.M[a] |= 1 << b
			}
		}
	}
	p.Count = []int{0, 1, 40, math.MaxInt - 5000}[d.below(4)]
	return p
}

// samples is sound pools: New's of all sizes, and some without a pattern.
func samples(t *testing.T) []Pool {
	t.Helper()
	var l []Pool
	d := dice(21)
	for size := 1; size <= 32; size++ {
		l = append(l, made(t, size), begun(t, size, size))
		for range 12 {
			l = append(l, mixed(&d, size))
		}
	}
	for i, p := range l {
		if !sound(p) {
			t.Fatalf("sample %d is not sound: %+v", i, p)
		}
	}
	return l
}

// unsound is pools of which nothing is promised, but that calls end.
func unsound(t *testing.T) []Pool {
	t.Helper()
	l := []Pool{{}}
	d := dice(22)
	full := begun(t, 32, 32)
	for _, size := range append([]int{0, 1, 31}, outside...) {
		for _, p := range []Pool{full, mixed(&d, 32), {O: topo.New(), Done: math.MaxUint64}, {O: topo.New()}} {
			p.Size = size
			l = append(l, p)
		}
	}
	for k := range 120 {
		p := mixed(&d, 1+d.below(32))
		if k%2 == 0 {
			p.Live |= set.Set(d.below(1<<30)) << d.below(40)
			p.Done |= set.Set(d.below(1<<30)) << d.below(40)
		}
		if k%3 == 0 {
			p.O[d.below(32)] = append(outside, 0, 7, 31)[d.below(len(outside)+3)]
		}
		if k%5 == 0 {
			for a := range p.M { // ways round, and edges of slots that are free
				p.M[a] |= set.Set(d.below(1 << 31))
			}
		}
		if k%7 == 0 {
			p.Count = []int{-1, math.MinInt, math.MaxInt}[d.below(3)]
		}
		l = append(l, p)
	}
	var all, round, self Pool
	for a := range 32 {
		all.M[a], round.M[a], self.M[a] = math.MaxUint64, 1<<((a+1)%32), 1<<a
	}
	for _, p := range []Pool{all, round, self} {
		p.Size, p.O, p.Live, p.Done, p.Count = 32, topo.New(), math.MaxUint64, math.MaxUint64, math.MaxInt
		l = append(l, p, Pool{Size: 64, M: p.M, Done: p.Done})
	}
	return l
}

// P5.1

func TestNew(t *testing.T) {
	for size := 1; size <= 32; size++ {
		p, is := New(size)
		want := Pool{Size: size}
		for a := range 32 {
			want.O[a] = a
		}
		if !is || p != want || !sound(p) {
			t.Errorf("New(%d) = %+v, %v", size, p, is)
		}
	}
}

func TestNewWrong(t *testing.T) {
	for _, size := range append([]int{0}, outside...) {
		if size == 32 { // no slot, but the greatest size
			continue
		}
		if p, is := New(size); is || p != (Pool{}) {
			t.Errorf("New(%d) = %+v, %v", size, p, is)
		}
	}
}

// P5.2

func TestBeginExample(t *testing.T) {
	p := made(t, 2)
	for i, want := range []struct {
		slot int
		e    api.Errno
	}{{0, api.OK}, {1, api.OK}, {0, api.ErrFull}} {
		q, slot, e := Begin(p)
		if slot != want.slot || e != want.e {
			t.Errorf("number %d: %d, %d", i, slot, e)
		}
		p = q
	}
}

func TestBeginFillsThePool(t *testing.T) {
	for size := 1; size <= 32; size++ {
		p := made(t, size)
		for slot := range size {
			want := p
			want.Live |= 1 << slot
			want.Ids[slot] = slot + 1
			want.Count = slot + 1
			q, got, e := Begin(p)
			if q != want || got != slot || e != api.OK {
				t.Fatalf("size %d, number %d: %+v, %d, %d", size, slot, q, got, e)
			}
			p = q
		}
		if q, slot, e := Begin(p); q != p || slot != 0 || e != api.ErrFull {
			t.Fatalf("size %d, without room: %+v, %d, %d", size, q, slot, e)
		}
	}
}

func TestBeginFullOfDone(t *testing.T) {
	for _, size := range []int{1, 2, 31, 32} {
		p := begun(t, size, size)
		for slot := range size {
			p = mustEnd(t, p, slot)
			if q, got, e := Begin(p); q != p || got != 0 || e != api.ErrFull {
				t.Errorf("size %d, %d are Done: %+v, %d, %d", size, slot+1, q, got, e)
			}
		}
	}
}

func TestBeginTakesTheLeastSlotAnew(t *testing.T) {
	p := mustEdge(t, begun(t, 4, 4), 0, 2)
	p, _ = Collect(mustEnd(t, p, 3, 1))
	want := p
	want.Live |= 1 << 1
	want.Ids[1], want.Count = 5, 5
	q, slot, e := Begin(p)
	if slot != 1 || e != api.OK || q != want {
		t.Errorf("the slot 1: %+v, %d, %d", q, slot, e)
	}
	if q, slot, e = Begin(q); slot != 3 || e != api.OK || q.Ids != [32]int{1, 5, 3, 6} || q.Count != 6 {
		t.Errorf("the slot 3: %+v, %d, %d", q, slot, e)
	}
}

func TestBeginBehindAllThatAreDone(t *testing.T) {
	p := mustEnd(t, mustEdge(t, begun(t, 6, 5), 0, 3), 3, 1, 4)
	q, slot, e := Begin(p)
	if slot != 5 || e != api.OK || q.M != (mat.Mat{0: 1 << 3, 1: 1 << 5, 3: 1 << 5, 4: 1 << 5}) || q.O != topo.New() {
		t.Errorf("behind 1, 3 and 4: %x, %v, %d, %d", q.M, q.O, slot, e)
	}
	// The slot 0 is used anew, behind two that stand above it, which the order
	// has to take up one by one, the lower one first.
	p = mustEdge(t, begun(t, 4, 4), 1, 2)
	p = mustEdge(t, p, 1, 3)
	p, went := Collect(mustEnd(t, p, 0, 2, 3))
	if !slices.Equal(went, []int{1}) {
		t.Fatalf("who went: %v", went)
	}
	q, slot, e = Begin(p)
	m, o, _ := topo.Insert(p.M, p.O, 2, 0)
	m, o, _ = topo.Insert(m, o, 3, 0)
	if slot != 0 || e != api.OK || q.M != m || q.O != o || q.O[0] < q.O[2] || q.O[0] < q.O[3] || q.Ids[0] != 5 {
		t.Errorf("0 behind 2 and 3: %+v, %d, %d", q, slot, e)
	}
	if m != (mat.Mat{1: 1<<2 | 1<<3, 2: 1, 3: 1}) {
		t.Errorf("the edges: %x", m)
	}
}

func TestBeginCounts(t *testing.T) {
	p := made(t, 3)
	p.Count = math.MaxInt - 2
	q := mustBegin(t, mustBegin(t, p))
	if q.Count != math.MaxInt || q.Ids != [32]int{math.MaxInt - 1, math.MaxInt} || !sound(q) {
		t.Errorf("up to the greatest int: %+v", q)
	}
}

func TestBeginFollowsTheWords(t *testing.T) {
	full := 0
	for _, p := range samples(t) {
		q, slot, e := Begin(p)
		if wq, wslot, we := begin(p); q != wq || slot != wslot || e != we {
			t.Fatalf("Begin(%+v) = %+v, %d, %d, not %+v, %d, %d", p, q, slot, e, wq, wslot, we)
		}
		if e == api.ErrFull {
			full++
		}
	}
	if full < 30 || full > 200 {
		t.Errorf("%d pools are full: too few of one kind", full)
	}
}

// P5.3

func TestEdge(t *testing.T) {
	p := mustEnd(t, begun(t, 5, 4), 1)
	q := mustEdge(t, p, 3, 1)
	want := p
	want.M[3] = 1 << 1
	want.O[3], want.O[1] = 1, 3
	if q != want {
		t.Errorf("3, that is Live, to 1, that is Done: %+v", q)
	}
	r := mustEdge(t, q, 1, 0)
	want.M[1] = 1
	want.O[3], want.O[1], want.O[0] = 0, 1, 3
	if r != want {
		t.Errorf("and 1 to 0: %+v", r)
	}
	if s := mustEdge(t, r, 3, 1); s != r {
		t.Errorf("3 to 1, that is there already: %+v", s)
	}
	if s := mustEdge(t, r, 3, 0); s.M != (mat.Mat{1: 1, 3: 1 | 1<<1}) || s.O != r.O {
		t.Errorf("3 to 0, that is ahead of it already: %+v", s)
	}
}

// refused fails unless Edge gives the pool back as it was, with that error.
func refused(t *testing.T, p Pool, a, b int, want api.Errno) {
	t.Helper()
	if q, e := Edge(p, a, b); q != p || e != want {
		t.Errorf("%d to %d: %d, not %d, or the pool changed", a, b, e, want)
	}
}

func TestEdgeWayRound(t *testing.T) {
	p := mustEdge(t, begun(t, 32, 32), 31, 0)
	refused(t, p, 0, 31, api.ErrCycle)
	p = mustEdge(t, mustEdge(t, mustEnd(t, p, 0, 7), 0, 7), 7, 30)
	refused(t, p, 30, 31, api.ErrCycle)
	refused(t, p, 7, 31, api.ErrCycle)
	refused(t, p, 30, 7, api.ErrCycle)
	refused(t, p, 30, 0, api.ErrCycle)
}

func TestEdgeWrong(t *testing.T) {
	p := mustEnd(t, mustEdge(t, begun(t, 6, 4), 3, 2), 2)
	p, _ = Collect(mustEnd(t, p, 1)) // 0 and 3 are Live, 2 is Done; 1, 4, 5 are free
	if p.Live != 1|1<<3 || p.Done != 1<<2 {
		t.Fatalf("the pool: %+v", p)
	}
	for a := range 32 {
		refused(t, p, a, a, api.ErrArg)
	}
	for _, a := range outside {
		refused(t, p, a, a, api.ErrArg)
	}
	nobody := append([]int{1, 4, 5, 6, 7, 31}, outside...)
	for _, a := range nobody {
		for _, b := range []int{0, 2, 3} {
			refused(t, p, a, b, api.ErrNone)
			refused(t, p, b, a, api.ErrNone)
		}
		for _, b := range nobody {
			if a != b {
				refused(t, p, a, b, api.ErrNone)
			}
		}
	}
}

func TestEdgeFollowsTheWords(t *testing.T) {
	var many [api.ErrBig + 1]int
	for i, p := range samples(t) {
		for a := -1; a < 34; a++ {
			for b := i % 3; b < 33; b += 3 {
				q, e := Edge(p, a, b)
				if wq, we := edge(p, a, b); q != wq || e != we {
					t.Fatalf("Edge(%+v, %d, %d) = %+v, %d, not %+v, %d", p, a, b, q, e, wq, we)
				}
				many[e]++
			}
		}
	}
	for _, e := range []api.Errno{api.OK, api.ErrArg, api.ErrNone, api.ErrCycle} {
		if many[e] < 1000 {
			t.Errorf("only %d of the error %d", many[e], e)
		}
	}
}

// P5.4

func TestEnd(t *testing.T) {
	p := mustEdge(t, begun(t, 32, 32), 31, 0)
	for _, slot := range []int{31, 0, 14} {
		want := p
		want.Live &^= 1 << slot
		want.Done |= 1 << slot
		q, e := End(p, slot)
		if q != want || e != api.OK {
			t.Errorf("End of %d: %+v, %d", slot, q, e)
		}
		p = q
	}
}

func TestEndWrong(t *testing.T) {
	p := mustEnd(t, begun(t, 6, 4), 2)
	for _, slot := range append([]int{2, 4, 5, 6, 7, 31}, outside...) {
		if q, e := End(p, slot); q != p || e != api.ErrNone {
			t.Errorf("End of %d: %+v, %d", slot, q, e)
		}
	}
	q, _ := Collect(p)
	if r, e := End(q, 2); r != q || e != api.ErrNone {
		t.Errorf("End of one that went: %+v, %d", r, e)
	}
}

func TestEndFollowsTheWords(t *testing.T) {
	for _, p := range samples(t) {
		for slot := -2; slot < 70; slot++ {
			q, e := End(p, slot)
			if wq, we := end(p, slot); q != wq || e != we {
				t.Fatalf("End(%+v, %d) = %+v, %d, not %+v, %d", p, slot, q, e, wq, we)
			}
		}
	}
}

// P5.5

func TestCollectNothing(t *testing.T) {
	for size := 1; size <= 32; size++ {
		for _, p := range []Pool{made(t, size), begun(t, size, size)} {
			if q, went := Collect(p); q != p || len(went) != 0 {
				t.Errorf("size %d, nothing is Done: %+v, %v", size, q, went)
			}
		}
	}
	p := mustEdge(t, mustEdge(t, begun(t, 3, 3), 2, 0), 0, 1)
	p = mustEnd(t, p, 0, 1)
	if q, went := Collect(p); q != p || len(went) != 0 {
		t.Errorf("all that are Done stand behind one that is Live: %+v, %v", q, went)
	}
}

func TestCollectInOrder(t *testing.T) {
	for _, c := range []struct {
		name  string
		edges [][2]int
		ends  []int
		went  []int
		done  set.Set
	}{
		{"by Ids, not as they ended", nil, []int{3, 0, 2}, []int{1, 3, 4}, 0},
		{"one alone", nil, []int{4}, []int{5}, 0},
		{"a chain down", [][2]int{{3, 2}, {2, 1}, {1, 0}}, []int{0, 1, 2, 3}, []int{4, 3, 2, 1}, 0},
		{"who comes free goes ahead of a greater Id", [][2]int{{2, 0}}, []int{0, 2, 3, 1}, []int{2, 3, 1, 4}, 0},
		{"behind one that is Live", [][2]int{{4, 1}, {1, 2}}, []int{0, 1, 2, 3}, []int{1, 4}, 1<<1 | 1<<2},
		{"ahead of one that is Live", [][2]int{{1, 4}, {0, 1}}, []int{0, 1}, []int{1, 2}, 0},
		{"behind one that goes, and one that is Live", [][2]int{{0, 2}, {4, 2}}, []int{0, 2}, []int{1}, 1 << 2},
	} {
		p := begun(t, 5, 5)
		for _, e := range c.edges {
			p = mustEdge(t, p, e[0], e[1])
		}
		p = mustEnd(t, p, c.ends...)
		q, went := Collect(p)
		if !slices.Equal(went, c.went) || q.Done != c.done || q.Live != p.Live || q.O != p.O || q.Count != 5 || q.Size != 5 {
			t.Errorf("%s: %v, %+v", c.name, went, q)
		}
		for slot := range 5 {
			gone := in(p.Done, slot) && !in(c.done, slot)
			if gone && (q.Ids[slot] != 0 || mat.Ins(q.M, slot)|mat.Outs(q.M, slot) != 0) {
				t.Errorf("%s: something of %d is left: %+v", c.name, slot, q)
			}
			if !gone && q.Ids[slot] != p.Ids[slot] {
				t.Errorf("%s: %d stays, with the Id %d", c.name, slot, q.Ids[slot])
			}
		}
	}
}

func TestCollectKeepsTheEdgesOfWhoStays(t *testing.T) {
	p := begun(t, 32, 32)
	for _, e := range [][2]int{{0, 31}, {31, 5}, {5, 6}, {7, 31}} {
		p = mustEdge(t, p, e[0], e[1])
	}
	p = mustEnd(t, p, 0, 5, 6)
	q, went := Collect(p)
	if !slices.Equal(went, []int{1}) || q.M != (mat.Mat{5: 1 << 6, 7: 1 << 31, 31: 1 << 5}) || q.Done != 1<<5|1<<6 {
		t.Errorf("without 0: %v, %+v", went, q)
	}
}

func TestCollectSameIds(t *testing.T) {
	p := Pool{Size: 8, O: topo.New(), Live: 1 << 7, Done: 0x7f}
	p.Ids = [32]int{3, 2, 2, -1, math.MinInt, 0, 2, 9}
	p.M = mat.Mat{1: 1<<4 | high, 2: high, 6: 1 << 7}
	q, went := Collect(p)
	// Of the three with the Id 2 the slot 1 goes first, which lets 4 go ahead
	// of the other two.
	if !slices.Equal(went, []int{-1, 0, 2, math.MinInt, 2, 2, 3}) {
		t.Errorf("who went: %v", went)
	}
	if q.Done != 0 || q.Live != 1<<7 || q.Ids != [32]int{7: 9} || q.M != (mat.Mat{1: high, 2: high}) || q.O != p.O {
		t.Errorf("what is left: %+v", q)
	}
}

func TestCollectFollowsTheWords(t *testing.T) {
	some, stay := 0, 0
	for _, p := range samples(t) {
		q, went := Collect(p)
		if wq, wwent := collect(p); q != wq || !slices.Equal(went, wwent) {
			t.Fatalf("Collect(%+v) = %+v, %v, not %+v, %v", p, q, went, wq, wwent)
		}
		if len(went) > 1 {
			some++
		}
		if q.Done != 0 {
			stay++
		}
		if r, more := Collect(q); r != q || len(more) != 0 {
			t.Fatalf("Collect behind Collect: %+v, %v", r, more)
		}
	}
	if some < 100 || stay < 100 {
		t.Errorf("too few of one kind: of %d pools some go, in %d some stay", some, stay)
	}
}

// P5.6

func TestAllGoIfNothingIsLive(t *testing.T) {
	for _, p := range samples(t) {
		for _, slot := range set.Items(p.Live) {
			p = mustEnd(t, p, slot)
		}
		var ids []int
		for _, slot := range set.Items(p.Done) {
			ids = append(ids, p.Ids[slot])
		}
		q, went := Collect(p)
		slices.Sort(ids)
		told := slices.Sorted(slices.Values(went))
		if !slices.Equal(told, ids) || q.Live|q.Done != 0 || !sound(q) {
			t.Fatalf("Collect(%+v) = %+v, %v", p, q, went)
		}
		for a := range 32 {
			if mat.Outs(q.M, a) != 0 {
				t.Fatalf("an edge from %d is left: %+v", a, q)
			}
		}
		for slot := range p.Size {
			if _, got, e := Begin(q); got != slot || e != api.OK {
				t.Fatalf("number %d behind that: %d, %d", slot, got, e)
			}
			q = mustBegin(t, q)
		}
	}
}

// book is what a run has seen of the transactions, by Ids: those that are over,
// and for each one those that were over when it began.
type book struct {
	over   []int
	behind map[int][]int
}

// slotOf is the slot of the one with that Id, -1 if it is not there any more.
func slotOf(p Pool, id int) int {
	for slot := range p.Size {
		if !free(p, slot) && p.Ids[slot] == id {
			return slot
		}
	}
	return -1
}

// check fails unless each one stands behind all that were over when it began,
// by an edge and by its place, as long as both are there.
func (b book) check(t *testing.T, p Pool) int {
	t.Helper()
	pairs := 0
	for id, l := range b.behind {
		slot := slotOf(p, id)
		for _, first := range l {
			ahead := slotOf(p, first)
			if slot < 0 || ahead < 0 {
				continue
			}
			pairs++
			if !mat.Has(p.M, ahead, slot) || p.O[ahead] >= p.O[slot] {
				t.Fatalf("%d began behind the end of %d: %+v", id, first, p)
			}
		}
	}
	return pairs
}

// move makes one call, whose answer has to be that of the words, and returns
// the pool behind it.
func move(t *testing.T, d *dice, p Pool, b *book) (Pool, api.Errno) {
	t.Helper()
	slot, other := d.below(p.Size+2)-1, d.below(p.Size+2)-1
	var q, want Pool
	var e, we api.Errno
	switch d.below(8) {
	case 0, 1, 2:
		var got, wgot int
		q, got, e = Begin(p)
		want, wgot, we = begin(p)
		if got != wgot {
			t.Fatalf("Begin(%+v): %d, not %d", p, got, wgot)
		}
		if e == api.OK {
			b.behind[q.Ids[got]] = slices.Clone(b.over)
		}
	case 3, 4:
		q, e = Edge(p, slot, other)
		want, we = edge(p, slot, other)
	case 5, 6:
		q, e = End(p, slot)
		want, we = end(p, slot)
		if e == api.OK {
			b.over = append(b.over, p.Ids[slot])
		}
	default:
		var went, wwent []int
		q, went = Collect(p)
		want, wwent = collect(p)
		if !slices.Equal(went, wwent) {
			t.Fatalf("Collect(%+v): %v, not %v", p, went, wwent)
		}
		if p.Live == 0 && q.Done != 0 {
			t.Fatalf("nothing is Live, but some stay: %+v", q)
		}
	}
	if q != want || e != we || !sound(q) {
		t.Fatalf("behind %+v: %+v, %d, not %+v, %d", p, q, e, want, we)
	}
	return q, e
}

func TestManyCalls(t *testing.T) {
	d := dice(23)
	pairs := 0
	var many [api.ErrBig + 1]int
	for k := range 700 {
		p := made(t, []int{1, 2, 3, 5, 8, 31, 32}[k%7])
		b := book{behind: map[int][]int{}}
		for range 20 + 4*p.Size {
			q, e := move(t, &d, p, &b)
			many[e]++
			pairs += b.check(t, q)
			p = q
		}
	}
	for _, e := range []api.Errno{api.OK, api.ErrArg, api.ErrNone, api.ErrFull, api.ErrCycle} {
		if many[e] < 50 {
			t.Errorf("only %d of the error %d", many[e], e)
		}
	}
	if pairs < 1000 {
		t.Errorf("only %d times one stands behind another one's end", pairs)
	}
}

// A pool is a value: what comes of one call may be gone on from twice.
func TestCallsLeaveTheirPool(t *testing.T) {
	for _, p := range samples(t) {
		was := p
		Begin(p)
		Edge(p, 0, 1)
		End(p, 0)
		_, went := Collect(p)
		for i := range went {
			went[i] = 77
		}
		if p != was {
			t.Fatalf("the pool %+v is now %+v", was, p)
		}
		if _, again := Collect(p); len(again) != len(went) || slices.Contains(again, 77) {
			t.Fatalf("behind a change of the list before: %v", again)
		}
	}
}

func TestSoundStaysSound(t *testing.T) {
	for _, p := range samples(t) {
		q, _, _ := Begin(p)
		r, _ := Collect(p)
		l := []Pool{q, r}
		for a := -1; a < 33; a++ {
			q, _ = End(p, a)
			r, _ = Edge(p, a, (a*7+3)%32)
			l = append(l, q, r)
		}
		for i, q := range l {
			if !sound(q) {
				t.Fatalf("number %d, behind %+v: %+v", i, p, q)
			}
		}
	}
}

// Of pools that are not sound

func TestUnsoundCallsEnd(t *testing.T) {
	slots := append([]int{0, 1, 7, 30, 31}, outside...)
	for _, p := range unsound(t) {
		Begin(p)
		Collect(p)
		for _, a := range slots {
			q, _ := End(p, a)
			Collect(q)
			Begin(q)
			for _, b := range slots {
				Edge(p, a, b)
			}
		}
		for range 70 {
			p, _, _ = Begin(p)
		}
		Collect(p)
	}
}
