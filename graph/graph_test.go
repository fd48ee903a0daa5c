package graph

import (
	"math"
	"slices"
	"testing"

	"warpbeam/api"
	"warpbeam/pool"
	"warpbeam/set"
	"warpbeam/store"
	"warpbeam/topo"
	"warpbeam/txn"
	"warpbeam/value"
)

// far is numbers that are neither Ids nor variables nor places of anything that
// the tests make, some of them such that a cut to fewer bits would take for one.
var far = []int{-1, -2, -63, -64, -1 << 32, 1 - 1<<32, 1 << 32, 1<<32 + 1, 1<<32 + 2, math.MinInt, math.MinInt + 1, math.MaxInt - 1, math.MaxInt}

var rightValues = []value.Value{
	{Kind: value.Nil},
	{Kind: value.Int}, {Kind: value.Int, N: 1}, {Kind: value.Int, N: -1},
	{Kind: value.Int, N: math.MaxInt64}, {Kind: value.Int, N: math.MinInt64},
	{Kind: value.Ref}, {Kind: value.Ref, N: 3}, {Kind: value.Ref, N: 63},
}

var wrongValues = []value.Value{
	{Kind: value.Nil, N: 1}, {Kind: value.Nil, N: -1},
	{Kind: value.Ref, N: -1}, {Kind: value.Ref, N: 64}, {Kind: value.Ref, N: 1 << 32},
	{Kind: -1}, {Kind: 3}, {Kind: 9, N: 7}, {Kind: 1<<32 + 1}, {Kind: math.MinInt},
}

func num(n int64) value.Value { return value.Value{Kind: value.Int, N: n} }

func read(x int, n int64) txn.Step { return txn.Step{X: x, V: num(n)} }

func write(x int, n int64) txn.Step { return txn.Step{X: x, V: num(n), Write: true} }

// zeros is n variables that nobody has written.
func zeros(n int) []value.Value {
	return slices.Repeat([]value.Value{num(0)}, n)
}

// dice is a row of numbers without a pattern, the same ones in every run.
type dice uint64

func (d *dice) below(n int) int {
	*d = *d*6364136223846793005 + 1442695040888963407
	return int(uint64(*d)>>33) % n
}

func one[T any](d *dice, l []T) T { return l[d.below(len(l))] }

// model answers from the chapter's words, one after the other. It has a
// transaction for each slot, and looks for an Id in the pool.
type model struct {
	p         pool.Pool
	s         store.Store
	did       [api.Slots]txn.Txn
	committed [api.Slots]bool
	log       []Entry
	many      int
}

func newModel(slots, vars int) *model {
	p, _ := pool.New(slots)
	s, _ := store.New(vars)
	return &model{p: p, s: s}
}

func (m *model) slot(id int) (int, api.Errno) {
	if id <= 0 || id > m.p.Count {
		return 0, api.ErrNone
	}
	for slot := range 32 {
		if m.p.Live>>slot&1 == 1 && m.p.Ids[slot] == id {
			return slot, api.OK
		}
	}
	return 0, api.ErrOver
}

func (m *model) begin() (int, api.Errno) {
	p, slot, e := pool.Begin(m.p)
	if e != api.OK {
		return 0, e
	}
	m.p, m.did[slot], m.committed[slot] = p, nil, false
	return p.Ids[slot], api.OK
}

func (m *model) read(id, x int) (v value.Value, e api.Errno) {
	slot, e := m.slot(id)
	if e != api.OK {
		return v, e
	}
	if x < 0 || x >= len(m.s) {
		return v, api.ErrArg
	}
	if v, is := txn.Look(m.did[slot], x); is {
		return v, api.OK
	}
	if len(m.did[slot]) >= 200 {
		return v, api.ErrFull
	}
	if w := m.s[x].Writer; w != -1 {
		p, e := pool.Edge(m.p, w, slot)
		if e != api.OK {
			m.end(slot)
			return v, api.ErrCycle
		}
		m.p = p
	}
	m.s, _ = store.Mark(m.s, x, slot)
	m.did[slot], _ = txn.Read(m.did[slot], x, m.s[x].V)
	return m.s[x].V, api.OK
}

func (m *model) write(id, x int, v value.Value) api.Errno {
	slot, e := m.slot(id)
	if e != api.OK {
		return e
	}
	if x < 0 || x >= len(m.s) {
		return api.ErrArg
	}
	m.did[slot], e = txn.Write(m.did[slot], x, v)
	return e
}

func (m *model) save(id int) (int, api.Errno) {
	slot, e := m.slot(id)
	if e != api.OK {
		return 0, e
	}
	return txn.Save(m.did[slot]), api.OK
}

func (m *model) back(id, to int) api.Errno {
	slot, e := m.slot(id)
	if e != api.OK {
		return e
	}
	m.did[slot], e = txn.Back(m.did[slot], to)
	return e
}

func (m *model) commit(id int) api.Errno {
	slot, e := m.slot(id)
	if e != api.OK {
		return e
	}
	ahead := m.p
	for _, w := range txn.Writes(m.did[slot]) {
		var from []int
		if m.s[w.X].Writer != -1 {
			from = append(from, m.s[w.X].Writer)
		}
		for a := range 32 {
			if m.s[w.X].Marks>>a&1 == 1 && a != slot {
				from = append(from, a)
			}
		}
		for _, a := range from {
			if m.p, e = pool.Edge(m.p, a, slot); e != api.OK {
				m.p = ahead
				m.end(slot)
				return api.ErrCycle
			}
		}
	}
	m.many++
	for _, w := range txn.Writes(m.did[slot]) {
		m.s, _ = store.Put(m.s, w.X, w.V, m.many, slot)
	}
	m.committed[slot] = true
	m.end(slot)
	return api.OK
}

func (m *model) abort(id int) api.Errno {
	slot, e := m.slot(id)
	if e != api.OK {
		return e
	}
	m.end(slot)
	return api.OK
}

func (m *model) end(slot int) {
	p, _ := pool.End(m.p, slot)
	left, went := pool.Collect(p)
	for _, id := range went {
		a := slices.Index(p.Ids[:], id)
		m.log = append(m.log, m.entry(a, id, true))
		m.s = store.Drop(m.s, a)
	}
	m.p = left
}

func (m *model) entry(slot, id int, over bool) Entry {
	e := Entry{id, m.committed[slot], over, txn.Reads(m.did[slot]), nil}
	if e.Committed {
		e.Writes = txn.Writes(m.did[slot])
	}
	return e
}

func (m *model) rest() []Entry {
	var l []Entry
	for _, slot := range topo.Row(m.p.O) {
		live, done := set.Has(m.p.Live, slot), set.Has(m.p.Done, slot)
		if live || done {
			l = append(l, m.entry(slot, m.p.Ids[slot], done))
		}
	}
	return l
}

func sameEntry(a, b Entry) bool {
	return a.Id == b.Id && a.Committed == b.Committed && a.Over == b.Over && slices.Equal(a.Reads, b.Reads) && slices.Equal(a.Writes, b.Writes)
}

func ids(l []Entry) []int {
	var out []int
	for _, e := range l {
		out = append(out, e.Id)
	}
	return out
}

// is checks all that an engine tells of itself.
func is(t *testing.T, g *Engine, log, rest []Entry, values []value.Value) {
	t.Helper()
	if l := g.Log(); !slices.EqualFunc(l, log, sameEntry) {
		t.Fatalf("Log: %v, not %v", l, log)
	}
	if l := g.Rest(); !slices.EqualFunc(l, rest, sameEntry) {
		t.Fatalf("Rest: %v, not %v", l, rest)
	}
	if l := g.Values(); !slices.Equal(l, values) {
		t.Fatalf("Values: %v, not %v", l, values)
	}
}

// unmoved checks that what is done leaves all that an engine tells of itself.
func unmoved(t *testing.T, g *Engine, do func()) {
	t.Helper()
	log, rest, values := g.Log(), g.Rest(), g.Values()
	do()
	is(t, g, log, rest, values)
}

// orders checks which Ids stand in the log, and which ones in the pool.
func orders(t *testing.T, g *Engine, log, rest []int) {
	t.Helper()
	if l := ids(g.Log()); !slices.Equal(l, log) {
		t.Fatalf("Log: %v, not %v", l, log)
	}
	if l := ids(g.Rest()); !slices.Equal(l, rest) {
		t.Fatalf("Rest: %v, not %v", l, rest)
	}
}

// errno checks an error's number.
func errno(t *testing.T, got, want api.Errno) {
	t.Helper()
	if got != want {
		t.Fatalf("error %d, not %d", got, want)
	}
}

// finds checks what a transaction reads.
func finds(t *testing.T, g *Engine, id, x int, v value.Value) {
	t.Helper()
	if got, e := g.Read(id, x); got != v || e != api.OK {
		t.Fatalf("Read(%d, %d): %v, %d, not %v, 0", id, x, got, e, v)
	}
}

// noRead checks the error of a Read, and that there is nothing beside it.
func noRead(t *testing.T, g *Engine, id, x int, want api.Errno) {
	t.Helper()
	if v, e := g.Read(id, x); v != (value.Value{}) || e != want {
		t.Fatalf("Read(%d, %d): %v, %d, not error %d", id, x, v, e, want)
	}
}

// writes writes numbers, which may be.
func writes(t *testing.T, g *Engine, id, x int, n int64) {
	t.Helper()
	if e := g.Write(id, x, num(n)); e != api.OK {
		t.Fatalf("Write(%d, %d, %d): %d", id, x, n, e)
	}
}

// begin checks that the next transaction has the Id that is its number.
func begin(t *testing.T, g *Engine, want int) int {
	t.Helper()
	id, e := g.Begin()
	if id != want || e != api.OK {
		t.Fatalf("Begin: %d, %d, not %d, 0", id, e, want)
	}
	return id
}

// three is an engine of three slots and so many variables, with the
// transactions 1, 2 and 3.
func three(t *testing.T, vars int) *Engine {
	t.Helper()
	g := New(3, vars)
	for id := 1; id <= 3; id++ {
		begin(t, g, id)
	}
	return g
}

// withSteps is an engine of four slots and 64 variables, in which transaction 1
// wrote variable 63 n times.
func withSteps(t *testing.T, n int) *Engine {
	t.Helper()
	g := New(4, 64)
	begin(t, g, 1)
	for i := range n {
		writes(t, g, 1, 63, int64(i))
	}
	return g
}

// The chapter's first example, and P9.1.

func TestExample(t *testing.T) {
	g := New(1, 1)
	begin(t, g, 1)
	writes(t, g, 1, 0, 5)
	errno(t, g.Commit(1), api.OK)
	is(t, g, []Entry{{1, true, true, nil, []txn.Step{write(0, 5)}}}, nil, []value.Value{num(5)})
}

func TestNewIsEmpty(t *testing.T) {
	for slots := 1; slots <= 32; slots++ {
		for vars := 0; vars <= 64; vars++ {
			g := New(slots, vars)
			if g == nil {
				t.Fatalf("New(%d, %d): nil", slots, vars)
			}
			is(t, g, nil, nil, zeros(vars))
			for id := 1; id <= slots; id++ {
				begin(t, g, id)
			}
			if id, e := g.Begin(); id != 0 || e != api.ErrFull {
				t.Fatalf("New(%d, %d): one more Begin: %d, %d", slots, vars, id, e)
			}
			for x := range vars {
				finds(t, g, slots, x, num(0))
			}
			noRead(t, g, slots, vars, api.ErrArg)
		}
	}
}

func TestNewIsNil(t *testing.T) {
	noSlots := append([]int{0, 33, 34, 63, 64, 65, 96, 256, 257}, far...)
	noVars := append([]int{65, 66, 127, 128, 256, 257}, far...)
	for _, slots := range noSlots {
		for _, vars := range []int{0, 1, 32, 64} {
			if New(slots, vars) != nil {
				t.Errorf("New(%d, %d): not nil", slots, vars)
			}
		}
	}
	for _, vars := range noVars {
		for _, slots := range []int{1, 2, 32} {
			if New(slots, vars) != nil {
				t.Errorf("New(%d, %d): not nil", slots, vars)
			}
		}
		for _, slots := range noSlots {
			if New(slots, vars) != nil {
				t.Errorf("New(%d, %d): not nil", slots, vars)
			}
		}
	}
}

func TestEnginesAreApart(t *testing.T) {
	a, b := New(2, 2), New(2, 2)
	begin(t, a, 1)
	unmoved(t, b, func() {
		writes(t, a, 1, 0, 5)
		finds(t, a, 1, 1, num(0))
		errno(t, a.Commit(1), api.OK)
		begin(t, a, 2)
	})
	errno(t, b.Abort(1), api.ErrNone)
	begin(t, b, 1)
	finds(t, b, 1, 0, num(0))
}

func TestWithoutVariables(t *testing.T) {
	g := New(1, 0)
	begin(t, g, 1)
	for _, x := range append([]int{0, 1, 63, 64}, far...) {
		noRead(t, g, 1, x, api.ErrArg)
		errno(t, g.Write(1, x, num(1)), api.ErrArg)
	}
	errno(t, g.Commit(1), api.OK)
	is(t, g, []Entry{{1, true, true, nil, nil}}, nil, nil)
}

// What no call made.

func TestNilAndZeroEngines(t *testing.T) {
	for _, g := range []*Engine{nil, {}, new(Engine)} {
		for range 2 {
			for _, n := range append([]int{0, 1, 2, 64}, far...) {
				noRead(t, g, n, n, api.ErrNil)
				noRead(t, g, 1, n, api.ErrNil)
				errno(t, g.Write(n, 0, num(1)), api.ErrNil)
				errno(t, g.Write(n, n, value.Value{Kind: 9}), api.ErrNil)
				errno(t, g.Commit(n), api.ErrNil)
				errno(t, g.Abort(n), api.ErrNil)
				errno(t, g.Back(n, n), api.ErrNil)
				if to, e := g.Save(n); to != 0 || e != api.ErrNil {
					t.Fatalf("Save: %d, %d", to, e)
				}
			}
			if id, e := g.Begin(); id != 0 || e != api.ErrNil {
				t.Fatalf("Begin: %d, %d", id, e)
			}
			is(t, g, nil, nil, nil)
		}
	}
}

// P9.2.

// refused checks that all calls with that id, with right arguments beside it and
// with wrong ones, answer that error, and leave the engine as it is.
func refused(t *testing.T, g *Engine, id int, want api.Errno) {
	t.Helper()
	unmoved(t, g, func() {
		for _, x := range []int{0, -1, 64, math.MaxInt} {
			noRead(t, g, id, x, want)
			for _, v := range []value.Value{num(1), {Kind: 9}} {
				errno(t, g.Write(id, x, v), want)
			}
			errno(t, g.Back(id, x), want)
		}
		errno(t, g.Commit(id), want)
		errno(t, g.Abort(id), want)
		if to, e := g.Save(id); to != 0 || e != want {
			t.Fatalf("Save(%d): %d, %d, not error %d", id, to, e, want)
		}
	})
}

func TestIdsThatNoBeginTold(t *testing.T) {
	g := New(3, 1)
	for _, id := range append([]int{0, 1, 2, 3}, far...) {
		refused(t, g, id, api.ErrNone)
	}
	for id := 1; id <= 3; id++ {
		begin(t, g, id)
		for _, other := range append([]int{0, id + 1, id + 2, id + 32, id + 64}, far...) {
			refused(t, g, other, api.ErrNone)
		}
	}
	if _, e := g.Begin(); e != api.ErrFull {
		t.Fatalf("Begin: %d", e)
	}
	refused(t, g, 4, api.ErrNone)
	errno(t, g.Abort(2), api.OK)
	refused(t, g, 4, api.ErrNone)
	begin(t, g, 4)
	refused(t, g, 5, api.ErrNone)
	errno(t, g.Write(4, 0, num(1)), api.OK)
}

func TestIdsThatAreOver(t *testing.T) {
	g := New(4, 2)
	begin(t, g, 1)
	errno(t, g.Commit(1), api.OK)
	refused(t, g, 1, api.ErrOver)
	begin(t, g, 2) // in the slot that 1 had
	refused(t, g, 1, api.ErrOver)
	errno(t, g.Abort(2), api.OK)
	refused(t, g, 2, api.ErrOver)

	begin(t, g, 3)
	begin(t, g, 4)
	begin(t, g, 5)
	finds(t, g, 3, 0, num(0))
	writes(t, g, 4, 0, 1)
	finds(t, g, 4, 1, num(0))
	errno(t, g.Commit(4), api.OK)
	orders(t, g, []int{1, 2}, []int{3, 4, 5})
	refused(t, g, 4, api.ErrOver) // it is in the pool still
	begin(t, g, 6)
	errno(t, g.Abort(6), api.OK)
	orders(t, g, []int{1, 2}, []int{3, 4, 5, 6})
	refused(t, g, 6, api.ErrOver) // behind 4

	writes(t, g, 3, 1, 1)
	errno(t, g.Commit(3), api.ErrCycle)
	for id := 1; id <= 6; id++ {
		if id != 5 {
			refused(t, g, id, api.ErrOver)
		}
	}
	finds(t, g, 5, 0, num(1))
}

func TestIdsThatReadTooMuchAreOver(t *testing.T) {
	g := New(2, 2)
	begin(t, g, 1)
	begin(t, g, 2)
	finds(t, g, 1, 0, num(0))
	writes(t, g, 2, 0, 1)
	writes(t, g, 2, 1, 1)
	errno(t, g.Commit(2), api.OK)
	noRead(t, g, 1, 1, api.ErrCycle)
	refused(t, g, 1, api.ErrOver)
	refused(t, g, 2, api.ErrOver)
}

func TestBegin(t *testing.T) {
	for _, slots := range []int{1, 2, 3, 31, 32} {
		g := New(slots, 1)
		for id := 1; id <= slots; id++ {
			begin(t, g, id)
		}
		for range 3 {
			unmoved(t, g, func() {
				if id, e := g.Begin(); id != 0 || e != api.ErrFull {
					t.Fatalf("of %d slots: Begin: %d, %d", slots, id, e)
				}
			})
		}
		// a refused Begin uses up no Id
		errno(t, g.Abort(slots), api.OK)
		begin(t, g, slots+1)
		if _, e := g.Begin(); e != api.ErrFull {
			t.Fatalf("of %d slots: Begin again: %d", slots, e)
		}
	}
}

func TestBeginWithOversInThePool(t *testing.T) {
	g := New(2, 1)
	begin(t, g, 1)
	finds(t, g, 1, 0, num(0))
	begin(t, g, 2)
	writes(t, g, 2, 0, 1)
	errno(t, g.Commit(2), api.OK)
	if _, e := g.Begin(); e != api.ErrFull { // 2 is over, but behind 1
		t.Fatalf("Begin: %d", e)
	}
	errno(t, g.Commit(1), api.OK)
	begin(t, g, 3)
	begin(t, g, 4)
	orders(t, g, []int{1, 2}, []int{3, 4})
}

// P9.3.

func TestReadOfItsOwn(t *testing.T) {
	g := three(t, 2)
	for _, v := range rightValues {
		errno(t, g.Write(1, 0, v), api.OK)
		finds(t, g, 1, 0, v)
	}
	// who reads its own marks nothing, so that nobody has to be behind it
	writes(t, g, 3, 0, 7)
	errno(t, g.Commit(3), api.OK)
	orders(t, g, []int{3}, []int{1, 2})
	if l := g.Rest()[0].Reads; len(l) != 0 {
		t.Fatalf("Reads: %v", l)
	}
	finds(t, g, 1, 0, rightValues[len(rightValues)-1])
	finds(t, g, 2, 0, num(7))
}

func TestReadAgain(t *testing.T) {
	g := three(t, 2)
	finds(t, g, 1, 0, num(0))
	writes(t, g, 2, 0, 5)
	errno(t, g.Commit(2), api.OK)
	writes(t, g, 3, 0, 6)
	errno(t, g.Commit(3), api.OK)
	finds(t, g, 1, 0, num(0)) // 1 stands ahead of both
	orders(t, g, nil, []int{1, 2, 3})
	if to, e := g.Save(1); to != 1 || e != api.OK {
		t.Fatalf("a Read again is a step: %d, %d", to, e)
	}
	writes(t, g, 1, 0, 8)
	finds(t, g, 1, 0, num(8))
	errno(t, g.Back(1, 1), api.OK)
	finds(t, g, 1, 0, num(0))
	writes(t, g, 1, 1, 9)
	errno(t, g.Commit(1), api.OK)
	is(t, g, []Entry{
		{1, true, true, []txn.Step{read(0, 0)}, []txn.Step{write(1, 9)}},
		{2, true, true, nil, []txn.Step{write(0, 5)}},
		{3, true, true, nil, []txn.Step{write(0, 6)}},
	}, nil, []value.Value{num(6), num(9)})
}

func TestReadWithoutWriter(t *testing.T) {
	g := New(2, 64)
	for _, x := range []int{0, 63} {
		id, _ := g.Begin()
		other, _ := g.Begin()
		finds(t, g, id, x, num(0))
		writes(t, g, id, x, 5)
		errno(t, g.Commit(id), api.OK)
		finds(t, g, other, x, num(5)) // who wrote it has gone
		errno(t, g.Commit(other), api.OK)
	}
	orders(t, g, []int{1, 2, 3, 4}, nil)
}

// A Read of what was written by one that is in the pool puts the reader behind
// that one, and so behind those ahead of it.
func TestReadWithWriter(t *testing.T) {
	g := New(4, 3)
	for id := 1; id <= 4; id++ {
		begin(t, g, id)
	}
	finds(t, g, 2, 0, num(0))
	writes(t, g, 3, 0, 5)
	errno(t, g.Commit(3), api.OK) // 3 behind 2
	finds(t, g, 1, 0, num(5))     // 1 behind 3
	orders(t, g, nil, []int{2, 3, 1, 4})
	errno(t, g.Commit(1), api.OK)
	orders(t, g, nil, []int{2, 3, 1, 4}) // 1 is over, and stays behind 3
	errno(t, g.Abort(2), api.OK)
	is(t, g, []Entry{
		{2, false, true, []txn.Step{read(0, 0)}, nil},
		{3, true, true, nil, []txn.Step{write(0, 5)}},
		{1, true, true, []txn.Step{read(0, 5)}, nil},
	}, []Entry{{4, false, false, nil, nil}}, []value.Value{num(5), num(0), num(0)})
}

func TestReadOfNoVariable(t *testing.T) {
	for _, vars := range []int{1, 2, 63, 64} {
		g := New(1, vars)
		begin(t, g, 1)
		finds(t, g, 1, vars-1, num(0))
		unmoved(t, g, func() {
			for _, x := range append([]int{vars, vars + 1, 64, 65, 128}, far...) {
				noRead(t, g, 1, x, api.ErrArg)
			}
		})
		finds(t, g, 1, 0, num(0))
	}
}

func TestReadAtTheMostSteps(t *testing.T) {
	g := withSteps(t, 199)
	finds(t, g, 1, 0, num(0))
	unmoved(t, g, func() {
		noRead(t, g, 1, 1, api.ErrFull)
		noRead(t, g, 1, 64, api.ErrArg)
		noRead(t, g, 1, -1, api.ErrArg)
		finds(t, g, 1, 0, num(0))
		finds(t, g, 1, 63, num(198))
	})
	if to, e := g.Save(1); to != 200 || e != api.OK {
		t.Fatalf("Save: %d, %d", to, e)
	}
	// what was refused is marked nowhere: who writes it is not behind 1
	begin(t, g, 2)
	writes(t, g, 2, 1, 5)
	errno(t, g.Commit(2), api.OK)
	orders(t, g, []int{2}, []int{1})
	errno(t, g.Back(1, 0), api.OK)
	finds(t, g, 1, 1, num(5))
	errno(t, g.Commit(1), api.OK)
	orders(t, g, []int{2, 1}, nil)
}

// A transaction with the most steps is told that first: it does not read, so it
// closes nothing, and goes on.
func TestReadThatIsFullClosesNothing(t *testing.T) {
	g := New(3, 3)
	begin(t, g, 1)
	begin(t, g, 2)
	finds(t, g, 1, 0, num(0))
	for range 199 {
		writes(t, g, 1, 2, 1)
	}
	writes(t, g, 2, 0, 5)
	writes(t, g, 2, 1, 6)
	errno(t, g.Commit(2), api.OK)
	unmoved(t, g, func() { noRead(t, g, 1, 1, api.ErrFull) })
	errno(t, g.Back(1, 1), api.OK)
	noRead(t, g, 1, 1, api.ErrCycle)
	orders(t, g, []int{1, 2}, nil)
}

// A Read that is full puts nobody behind the variable's writer.
func TestReadThatIsFullLeavesNoEdge(t *testing.T) {
	g := three(t, 3)
	finds(t, g, 1, 0, num(0))
	writes(t, g, 2, 0, 5)
	errno(t, g.Commit(2), api.OK)
	for range 200 {
		writes(t, g, 3, 2, 1)
	}
	noRead(t, g, 3, 0, api.ErrFull)
	errno(t, g.Commit(3), api.OK)
	orders(t, g, []int{3}, []int{1, 2})
}

func TestReadThatClosesAWayRound(t *testing.T) {
	g := three(t, 3)
	finds(t, g, 1, 0, num(0))
	writes(t, g, 1, 2, 9)
	writes(t, g, 2, 0, 5)
	writes(t, g, 2, 1, 6)
	errno(t, g.Commit(2), api.OK) // 2 behind 1
	orders(t, g, nil, []int{1, 2, 3})
	noRead(t, g, 1, 1, api.ErrCycle)
	is(t, g, []Entry{
		{1, false, true, []txn.Step{read(0, 0)}, nil},
		{2, true, true, nil, []txn.Step{write(0, 5), write(1, 6)}},
	}, []Entry{{3, false, false, nil, nil}}, []value.Value{num(5), num(6), num(0)})
	finds(t, g, 3, 2, num(0))
}

// A way round of more than two: 1 is behind 3 would be, which is behind 2, which
// is behind 1.
func TestReadThatClosesALongWayRound(t *testing.T) {
	g := New(4, 4)
	for id := 1; id <= 4; id++ {
		begin(t, g, id)
	}
	finds(t, g, 1, 0, num(0))
	finds(t, g, 2, 1, num(0))
	writes(t, g, 2, 0, 2)
	writes(t, g, 3, 1, 3)
	writes(t, g, 3, 2, 4)
	finds(t, g, 4, 3, num(0))
	errno(t, g.Commit(3), api.OK)
	errno(t, g.Commit(2), api.OK)
	noRead(t, g, 1, 2, api.ErrCycle)
	orders(t, g, []int{1, 2, 3}, []int{4})
}

// One that is refused in its Read, and is behind others, stays in the pool, with
// what it read: it is over, and has still to be right.
func TestReadThatIsRefusedMayStay(t *testing.T) {
	g := New(4, 4)
	for id := 1; id <= 4; id++ {
		begin(t, g, id)
	}
	finds(t, g, 1, 0, num(0))
	writes(t, g, 2, 0, 5)
	errno(t, g.Commit(2), api.OK) // 2 behind 1
	finds(t, g, 3, 0, num(5))     // 3 behind 2
	finds(t, g, 3, 1, num(0))
	writes(t, g, 4, 1, 6)
	writes(t, g, 4, 2, 7)
	errno(t, g.Commit(4), api.OK) // 4 behind 3
	noRead(t, g, 3, 2, api.ErrCycle)
	is(t, g, nil, []Entry{
		{1, false, false, []txn.Step{read(0, 0)}, nil},
		{2, true, true, nil, []txn.Step{write(0, 5)}},
		{3, false, true, []txn.Step{read(0, 5), read(1, 0)}, nil},
		{4, true, true, nil, []txn.Step{write(1, 6), write(2, 7)}},
	}, []value.Value{num(5), num(6), num(7), num(0)})
	refused(t, g, 3, api.ErrOver)
	errno(t, g.Commit(1), api.OK)
	orders(t, g, []int{1, 2, 3, 4}, nil)
}

// P9.4.

func TestWrite(t *testing.T) {
	g := New(2, 64)
	begin(t, g, 1)
	begin(t, g, 2)
	for _, x := range []int{0, 1, 62, 63} {
		for _, v := range rightValues {
			errno(t, g.Write(1, x, v), api.OK)
			finds(t, g, 1, x, v)
			finds(t, g, 2, x, num(0))
		}
		if g.Values()[x] != num(0) {
			t.Fatal("what is written is there ahead of the Commit")
		}
	}
	if to, e := g.Save(1); to != 4*len(rightValues) || e != api.OK {
		t.Fatalf("Save: %d, %d", to, e)
	}
	if e := g.Rest()[0]; len(e.Reads) != 0 || len(e.Writes) != 0 {
		t.Fatalf("its entry: %v", e)
	}
}

func TestWriteOfWhatMayNotBe(t *testing.T) {
	for _, vars := range []int{1, 2, 63, 64} {
		g := New(1, vars)
		begin(t, g, 1)
		for _, v := range append(wrongValues, num(1), num(0)) {
			for _, x := range append([]int{vars, vars + 1, 64, 65}, far...) {
				errno(t, g.Write(1, x, v), api.ErrArg)
			}
		}
		for _, v := range wrongValues {
			errno(t, g.Write(1, 0, v), api.ErrArg)
			errno(t, g.Write(1, vars-1, v), api.ErrArg)
		}
		if to, e := g.Save(1); to != 0 || e != api.OK {
			t.Fatalf("Save: %d, %d", to, e)
		}
		errno(t, g.Commit(1), api.OK)
		is(t, g, []Entry{{1, true, true, nil, nil}}, nil, zeros(vars))
	}
}

func TestWriteAtTheMostSteps(t *testing.T) {
	g := withSteps(t, 199)
	writes(t, g, 1, 0, 7)
	errno(t, g.Write(1, 0, num(8)), api.ErrFull)
	errno(t, g.Write(1, 5, num(8)), api.ErrFull)
	errno(t, g.Write(1, 5, value.Value{Kind: 9}), api.ErrArg)
	errno(t, g.Write(1, 64, num(8)), api.ErrArg)
	errno(t, g.Write(1, -1, num(8)), api.ErrArg)
	if to, e := g.Save(1); to != 200 || e != api.OK {
		t.Fatalf("Save: %d, %d", to, e)
	}
	errno(t, g.Commit(1), api.OK)
	want := zeros(64)
	want[0], want[63] = num(7), num(198)
	is(t, g, []Entry{{1, true, true, nil, []txn.Step{write(0, 7), write(63, 198)}}}, nil, want)
}

func TestSaveAndBack(t *testing.T) {
	g := New(2, 4)
	begin(t, g, 1)
	begin(t, g, 2)
	writes(t, g, 1, 1, 5)
	to, e := g.Save(1)
	if to != 1 || e != api.OK {
		t.Fatalf("Save: %d, %d", to, e)
	}
	writes(t, g, 1, 1, 6)
	finds(t, g, 1, 2, num(0))
	writes(t, g, 1, 3, 7)
	unmoved(t, g, func() {
		for _, wrong := range append([]int{5, 6, 200, 201}, far...) {
			errno(t, g.Back(1, wrong), api.ErrArg)
		}
		finds(t, g, 1, 1, num(6))
		finds(t, g, 1, 3, num(7))
	})
	errno(t, g.Back(1, 4), api.OK)
	finds(t, g, 1, 1, num(6))
	finds(t, g, 1, 3, num(7))
	errno(t, g.Back(1, to), api.OK)
	finds(t, g, 1, 1, num(5))
	if to, _ := g.Save(1); to != 2 { // the Write of 1, and the Read of 2
		t.Fatalf("Save behind Back: %d", to)
	}
	// what was read is marked still: who writes it is behind 1
	writes(t, g, 2, 2, 9)
	errno(t, g.Commit(2), api.OK)
	orders(t, g, nil, []int{1, 2})
	finds(t, g, 1, 2, num(0))
	errno(t, g.Commit(1), api.OK)
	is(t, g, []Entry{
		{1, true, true, []txn.Step{read(2, 0)}, []txn.Step{write(1, 5)}},
		{2, true, true, nil, []txn.Step{write(2, 9)}},
	}, nil, []value.Value{num(0), num(5), num(9), num(0)})
}

func TestBackToNothing(t *testing.T) {
	g := New(2, 2)
	begin(t, g, 1)
	begin(t, g, 2)
	if to, e := g.Save(1); to != 0 || e != api.OK {
		t.Fatalf("Save: %d, %d", to, e)
	}
	errno(t, g.Back(1, 0), api.OK)
	errno(t, g.Back(1, 1), api.ErrArg)
	errno(t, g.Back(1, -1), api.ErrArg)
	finds(t, g, 2, 0, num(0))
	writes(t, g, 1, 0, 5)
	errno(t, g.Back(1, 0), api.OK)
	errno(t, g.Commit(1), api.OK) // it has no Writes any more: it is behind nobody
	is(t, g, []Entry{{1, true, true, nil, nil}}, []Entry{{2, false, false, []txn.Step{read(0, 0)}, nil}}, zeros(2))
}

// What a variable has at a Read behind a Back is noted, though the transaction
// wrote it once.
func TestReadBehindBack(t *testing.T) {
	g := New(2, 1)
	begin(t, g, 1)
	begin(t, g, 2)
	writes(t, g, 1, 0, 5)
	finds(t, g, 1, 0, num(5))
	errno(t, g.Back(1, 0), api.OK)
	writes(t, g, 2, 0, 6)
	errno(t, g.Commit(2), api.OK)
	finds(t, g, 1, 0, num(6))
	errno(t, g.Abort(1), api.OK)
	is(t, g, []Entry{
		{2, true, true, nil, []txn.Step{write(0, 6)}},
		{1, false, true, []txn.Step{read(0, 6)}, nil},
	}, nil, []value.Value{num(6)})
}

// P9.5.

func TestCommitWithoutWrites(t *testing.T) {
	g := New(3, 2)
	begin(t, g, 1)
	errno(t, g.Commit(1), api.OK)
	begin(t, g, 2)
	finds(t, g, 2, 1, num(0))
	errno(t, g.Commit(2), api.OK)
	is(t, g, []Entry{
		{1, true, true, nil, nil},
		{2, true, true, []txn.Step{read(1, 0)}, nil},
	}, nil, zeros(2))
}

func TestCommitOfWhatItselfMarked(t *testing.T) {
	g := three(t, 1)
	finds(t, g, 1, 0, num(0))
	writes(t, g, 1, 0, 5)
	errno(t, g.Commit(1), api.OK)
	is(t, g, []Entry{
		{1, true, true, []txn.Step{read(0, 0)}, []txn.Step{write(0, 5)}},
	}, []Entry{{2, false, false, nil, nil}, {3, false, false, nil, nil}}, []value.Value{num(5)})
}

func TestCommitOfWhatOthersMarked(t *testing.T) {
	g := New(5, 2)
	for id := 1; id <= 5; id++ {
		begin(t, g, id)
	}
	for _, id := range []int{5, 1, 4, 2} {
		finds(t, g, id, 1, num(0))
	}
	writes(t, g, 2, 1, 7)
	errno(t, g.Commit(2), api.OK)
	// 2 changed places with 4, and then with 5; 3 kept its own
	orders(t, g, nil, []int{1, 4, 3, 5, 2})
	for i, id := range []int{4, 1} {
		errno(t, g.Commit(id), api.OK)
		if n := len(g.Log()); n != i+1 {
			t.Fatalf("%d went, not %d", n, i+1)
		}
	}
	errno(t, g.Abort(5), api.OK)
	is(t, g, []Entry{
		{4, true, true, []txn.Step{read(1, 0)}, nil},
		{1, true, true, []txn.Step{read(1, 0)}, nil},
		{5, false, true, []txn.Step{read(1, 0)}, nil},
		{2, true, true, []txn.Step{read(1, 0)}, []txn.Step{write(1, 7)}},
	}, []Entry{{3, false, false, nil, nil}}, []value.Value{num(0), num(7)})
}

// Who writes what one in the pool wrote is behind that one.
func TestCommitBehindAWriter(t *testing.T) {
	g := New(4, 2)
	for id := 1; id <= 4; id++ {
		begin(t, g, id)
	}
	finds(t, g, 1, 0, num(0))
	writes(t, g, 3, 0, 5)
	errno(t, g.Commit(3), api.OK) // 3 behind 1
	writes(t, g, 2, 0, 6)
	errno(t, g.Commit(2), api.OK) // 2 behind 3
	orders(t, g, nil, []int{1, 3, 2, 4})
	if v := g.Values()[0]; v != num(6) {
		t.Fatalf("it has %v", v)
	}
	errno(t, g.Abort(1), api.OK)
	orders(t, g, []int{1, 3, 2}, []int{4})
}

func TestCommitThatClosesAWayRound(t *testing.T) {
	g := three(t, 2)
	finds(t, g, 1, 0, num(0))
	finds(t, g, 2, 1, num(0))
	writes(t, g, 1, 1, 5)
	writes(t, g, 2, 0, 6)
	errno(t, g.Commit(1), api.OK) // 1 behind 2
	errno(t, g.Commit(2), api.ErrCycle)
	is(t, g, []Entry{
		{2, false, true, []txn.Step{read(1, 0)}, nil},
		{1, true, true, []txn.Step{read(0, 0)}, []txn.Step{write(1, 5)}},
	}, []Entry{{3, false, false, nil, nil}}, []value.Value{num(0), num(5)})
	refused(t, g, 2, api.ErrOver)
}

// Of two edges the second one closes a way round: the first one is not left
// either, so that 1 goes, though 3, which read what 1 was to write, stays.
func TestCommitThatIsRefusedLeavesNoEdge(t *testing.T) {
	g := three(t, 3)
	finds(t, g, 3, 0, num(0))
	finds(t, g, 1, 2, num(0))
	finds(t, g, 2, 1, num(0))
	writes(t, g, 2, 2, 5)
	errno(t, g.Commit(2), api.OK) // 2 behind 1
	writes(t, g, 1, 0, 6)
	writes(t, g, 1, 1, 7)
	errno(t, g.Commit(1), api.ErrCycle)
	is(t, g, []Entry{
		{1, false, true, []txn.Step{read(2, 0)}, nil},
		{2, true, true, []txn.Step{read(1, 0)}, []txn.Step{write(2, 5)}},
	}, []Entry{{3, false, false, []txn.Step{read(0, 0)}, nil}}, []value.Value{num(0), num(0), num(5)})
}

// The same with one variable: its marks are asked one by one, rising.
func TestCommitThatIsRefusedAtALaterMark(t *testing.T) {
	g := New(4, 3)
	for id := 1; id <= 4; id++ {
		begin(t, g, id)
	}
	finds(t, g, 1, 0, num(0))
	finds(t, g, 4, 0, num(0))
	finds(t, g, 3, 1, num(0))
	writes(t, g, 4, 1, 5)
	errno(t, g.Commit(4), api.OK) // 4 behind 3
	writes(t, g, 3, 0, 6)
	errno(t, g.Commit(3), api.ErrCycle)
	orders(t, g, []int{3, 4}, []int{1, 2})
}

// A refused Commit that is behind one that stays is in the pool, at its place.
func TestCommitThatIsRefusedMayStay(t *testing.T) {
	g := New(6, 5)
	for id := 1; id <= 5; id++ {
		begin(t, g, id)
	}
	finds(t, g, 1, 3, num(0))
	writes(t, g, 4, 3, 1)
	errno(t, g.Commit(4), api.OK) // 4 behind 1
	finds(t, g, 2, 3, num(1))     // 2 behind 4
	finds(t, g, 2, 0, num(0))
	finds(t, g, 3, 4, num(0))
	writes(t, g, 3, 0, 2)
	errno(t, g.Commit(3), api.OK) // 3 behind 2
	finds(t, g, 5, 1, num(0))
	orders(t, g, nil, []int{1, 4, 2, 3, 5})
	writes(t, g, 2, 1, 8) // 5 ahead of 2: may be
	writes(t, g, 2, 4, 9) // 3 ahead of 2: may not be
	errno(t, g.Commit(2), api.ErrCycle)
	orders(t, g, nil, []int{1, 4, 2, 3, 5})
	refused(t, g, 2, api.ErrOver)
	errno(t, g.Abort(5), api.OK)
	errno(t, g.Abort(1), api.OK)
	is(t, g, []Entry{
		{5, false, true, []txn.Step{read(1, 0)}, nil},
		{1, false, true, []txn.Step{read(3, 0)}, nil},
		{4, true, true, nil, []txn.Step{write(3, 1)}},
		{2, false, true, []txn.Step{read(0, 0), read(3, 1)}, nil},
		{3, true, true, []txn.Step{read(4, 0)}, []txn.Step{write(0, 2)}},
	}, nil, []value.Value{num(2), num(0), num(0), num(1), num(0)})
}

// Which edge comes first is to be seen in the places: with the variables falling,
// or as they were written, it would be 2, 3, 1.
func TestCommitGoesByRisingVariables(t *testing.T) {
	g := three(t, 2)
	finds(t, g, 3, 0, num(0))
	finds(t, g, 2, 1, num(0))
	writes(t, g, 1, 1, 5)
	writes(t, g, 1, 0, 6)
	errno(t, g.Commit(1), api.OK)
	orders(t, g, nil, []int{3, 2, 1})
}

// With the marks ahead of the writer it would be 1, 3, 4, 5, 2.
func TestCommitAsksTheWriterFirst(t *testing.T) {
	g := New(5, 2)
	for id := 1; id <= 5; id++ {
		begin(t, g, id)
	}
	finds(t, g, 1, 0, num(0))
	writes(t, g, 4, 0, 5)
	errno(t, g.Commit(4), api.OK) // 4 behind 1
	finds(t, g, 3, 1, num(0))
	finds(t, g, 5, 0, num(5)) // 5 behind 4
	writes(t, g, 5, 1, 6)
	errno(t, g.Commit(5), api.OK) // 5 behind 3
	writes(t, g, 2, 0, 7)
	errno(t, g.Commit(2), api.OK) // 2 behind 4, and behind 5
	orders(t, g, nil, []int{1, 4, 3, 5, 2})
}

// No call tells versions, but the store has them: the number of all that were
// committed so far, with Writes or without, not of those that were refused.
func TestVersions(t *testing.T) {
	g := New(3, 2)
	has := func(x int, v value.Value, version, writer int) {
		t.Helper()
		got, _ := store.Get(g.store, x)
		if got.V != v || got.Version != version || got.Writer != writer {
			t.Fatalf("variable %d: %v", x, got)
		}
	}
	begin(t, g, 1)
	errno(t, g.Commit(1), api.OK)
	begin(t, g, 2)
	writes(t, g, 2, 0, 5)
	errno(t, g.Abort(2), api.OK)
	has(0, num(0), 0, -1)
	begin(t, g, 3)
	finds(t, g, 3, 0, num(0))
	begin(t, g, 4)
	begin(t, g, 5)
	finds(t, g, 4, 1, num(0))
	writes(t, g, 4, 0, 6)
	errno(t, g.Commit(4), api.OK)
	has(0, num(6), 2, 1) // 4 is in the pool, in slot 1
	has(1, num(0), 0, -1)
	writes(t, g, 3, 1, 7)
	errno(t, g.Commit(3), api.ErrCycle)
	has(0, num(6), 2, -1)
	has(1, num(0), 0, -1)
	writes(t, g, 5, 1, 8)
	writes(t, g, 5, 0, 9)
	errno(t, g.Commit(5), api.OK)
	has(0, num(9), 3, -1)
	has(1, num(8), 3, -1)
}

func TestAbort(t *testing.T) {
	g := three(t, 2)
	writes(t, g, 1, 0, 5)
	finds(t, g, 1, 1, num(0))
	errno(t, g.Abort(1), api.OK)
	is(t, g, []Entry{{1, false, true, []txn.Step{read(1, 0)}, nil}},
		[]Entry{{2, false, false, nil, nil}, {3, false, false, nil, nil}}, zeros(2))
	// one that is over and behind another one stays
	finds(t, g, 2, 0, num(0))
	writes(t, g, 3, 0, 6)
	errno(t, g.Commit(3), api.OK)
	begin(t, g, 4)
	finds(t, g, 4, 0, num(6))
	errno(t, g.Abort(4), api.OK)
	is(t, g, g.Log()[:1], []Entry{
		{2, false, false, []txn.Step{read(0, 0)}, nil},
		{3, true, true, nil, []txn.Step{write(0, 6)}},
		{4, false, true, []txn.Step{read(0, 6)}, nil},
	}, []value.Value{num(6), num(0)})
	errno(t, g.Abort(2), api.OK)
	orders(t, g, []int{1, 2, 3, 4}, nil)
}

// Who is over and in the pool has its marks still.
func TestMarksOfOneThatIsOver(t *testing.T) {
	g := New(4, 2)
	for id := 1; id <= 4; id++ {
		begin(t, g, id)
	}
	finds(t, g, 1, 0, num(0))
	writes(t, g, 2, 0, 5)
	finds(t, g, 2, 1, num(0))
	errno(t, g.Commit(2), api.OK) // 2 behind 1
	writes(t, g, 3, 1, 6)
	errno(t, g.Commit(3), api.OK) // 3 behind 2
	orders(t, g, nil, []int{1, 2, 3, 4})
	errno(t, g.Commit(1), api.OK)
	orders(t, g, []int{1, 2, 3}, []int{4})
}

// Of several that may go at once, the one with the least Id goes first.
func TestThoseThatGoAtOnce(t *testing.T) {
	g := New(5, 2)
	for id := 1; id <= 5; id++ {
		begin(t, g, id)
	}
	finds(t, g, 4, 0, num(0))
	finds(t, g, 4, 1, num(0))
	writes(t, g, 3, 1, 5)
	errno(t, g.Commit(3), api.OK)
	writes(t, g, 2, 0, 6)
	errno(t, g.Commit(2), api.OK)
	errno(t, g.Commit(5), api.OK)
	orders(t, g, []int{5}, []int{1, 4, 2, 3})
	errno(t, g.Commit(4), api.OK)
	orders(t, g, []int{5, 4, 2, 3}, []int{1})
}

// A slot that is used anew is nobody's any more.

func TestSlotAnewIsNoReader(t *testing.T) {
	g := New(2, 1)
	begin(t, g, 1)
	finds(t, g, 1, 0, num(0))
	errno(t, g.Abort(1), api.OK)
	begin(t, g, 2) // in the slot that read the variable
	begin(t, g, 3)
	writes(t, g, 3, 0, 5)
	errno(t, g.Commit(3), api.OK)
	orders(t, g, []int{1, 3}, []int{2})
	finds(t, g, 2, 0, num(5))
}

func TestSlotAnewIsNoWriter(t *testing.T) {
	g := New(3, 1)
	begin(t, g, 1)
	writes(t, g, 1, 0, 5)
	errno(t, g.Commit(1), api.OK)
	begin(t, g, 2) // in the slot that wrote the variable
	begin(t, g, 3)
	begin(t, g, 4)
	finds(t, g, 3, 0, num(5))
	errno(t, g.Commit(3), api.OK)
	orders(t, g, []int{1, 3}, []int{2, 4})
	writes(t, g, 4, 0, 6)
	errno(t, g.Commit(4), api.OK)
	orders(t, g, []int{1, 3, 4}, []int{2})
	finds(t, g, 2, 0, num(6))
}

func TestSlotAnewHasNoSteps(t *testing.T) {
	g := New(1, 2)
	for id := 1; id <= 100; id++ {
		begin(t, g, id)
		if to, e := g.Save(id); to != 0 || e != api.OK {
			t.Fatalf("Save: %d, %d", to, e)
		}
		is(t, g, g.Log(), []Entry{{id, false, false, nil, nil}}, g.Values())
		finds(t, g, id, 0, num(int64(id-1)))
		writes(t, g, id, 0, int64(id))
		writes(t, g, id, 1, -1)
		if id%10 == 0 {
			errno(t, g.Back(id, 1), api.OK)
			writes(t, g, id, 0, int64(id))
		}
		errno(t, g.Commit(id), api.OK)
	}
	l := g.Log()
	for i, e := range l {
		want := Entry{i + 1, true, true, []txn.Step{read(0, int64(i))}, []txn.Step{write(0, int64(i+1)), write(1, -1)}}
		if (i+1)%10 == 0 {
			want.Writes = want.Writes[:1]
		}
		if !sameEntry(e, want) {
			t.Fatalf("%v, not %v", e, want)
		}
	}
	if len(l) != 100 {
		t.Fatalf("%d entries", len(l))
	}
}

// P9.6.

func TestEntriesOfTheLive(t *testing.T) {
	g := New(2, 4)
	begin(t, g, 1)
	finds(t, g, 1, 3, num(0))
	finds(t, g, 1, 0, num(0))
	writes(t, g, 1, 0, 5)
	writes(t, g, 1, 1, 6)
	begin(t, g, 2)
	is(t, g, nil, []Entry{
		{1, false, false, []txn.Step{read(0, 0), read(3, 0)}, nil},
		{2, false, false, nil, nil},
	}, zeros(4))
}

// scribble writes over all that a list of entries has, and over the room that
// its parts may have behind their ends.
func scribble(l []Entry) {
	for i := range l {
		for _, steps := range [][]txn.Step{l[i].Reads, l[i].Writes} {
			steps = steps[:cap(steps)]
			for j := range steps {
				steps[j] = txn.Step{X: 77, V: num(-77), Write: j%2 == 0}
			}
		}
	}
	l = l[:cap(l)]
	for i := range l {
		l[i] = Entry{Id: -5, Reads: []txn.Step{read(9, 9)}}
	}
}

func TestWhatIsToldMayBeWrittenOver(t *testing.T) {
	g := New(5, 3)
	m := newModel(5, 3)
	d := dice(99)
	for range 400 {
		randomCall(t, g, m, &d)
		unmoved(t, g, func() {
			scribble(g.Log())
			scribble(g.Rest())
			values := g.Values()
			values = values[:cap(values)]
			for i := range values {
				values[i] = num(-99)
			}
		})
		is(t, g, m.log, m.rest(), store.Values(m.s))
	}
	if len(g.Log()) < 20 {
		t.Fatalf("only %d went", len(g.Log()))
	}
}

// No two lists of one answer share memory: each is written over in turn, and the
// others keep what they had.
func TestListsOfOneAnswerAreApart(t *testing.T) {
	g := New(4, 2)
	for id := 1; id <= 4; id++ {
		begin(t, g, id)
		finds(t, g, id, 0, num(0))
		finds(t, g, id, 1, num(0))
	}
	writes(t, g, 1, 0, 5)
	writes(t, g, 1, 1, 6)
	errno(t, g.Commit(1), api.OK)
	apart(t, g.Rest)
	for id := 2; id <= 4; id++ {
		errno(t, g.Abort(id), api.OK)
	}
	apart(t, g.Log)
}

func apart(t *testing.T, tell func() []Entry) {
	t.Helper()
	l, other := tell(), tell()
	if len(l) != 4 {
		t.Fatalf("%d entries", len(l))
	}
	lists := func(l []Entry) (all [][]txn.Step) {
		for _, e := range l {
			all = append(all, e.Reads, e.Writes)
		}
		return all
	}
	mine, theirs := lists(l), lists(other)
	for i := range mine {
		full := mine[i][:cap(mine[i])]
		for k := range full {
			full[k] = read(40+i, int64(40+k))
		}
		for j := range theirs {
			if j > i && !slices.Equal(mine[j], theirs[j]) {
				t.Fatalf("list %d changed with list %d", j, i)
			}
		}
	}
	if again := lists(tell()); !slices.EqualFunc(again, theirs, slices.Equal[[]txn.Step]) {
		t.Fatal("what is told changed")
	}
}

func TestTellingChangesNothing(t *testing.T) {
	g := three(t, 2)
	finds(t, g, 2, 0, num(0))
	writes(t, g, 1, 0, 5)
	errno(t, g.Commit(1), api.OK)
	want := g.Rest()
	for range 5 {
		is(t, g, nil, want, []value.Value{num(5), num(0)})
	}
	errno(t, g.Commit(2), api.OK)
	orders(t, g, []int{2, 1}, []int{3})
}

// P9.7, and all others, through many calls.

// times is when transactions began and ended, by what the calls answered.
type times struct {
	now          int
	began, ended map[int]int
}

func newTimes() *times {
	return &times{began: map[int]int{}, ended: map[int]int{}}
}

// legal checks P9.7 from what the engine tells alone.
func legal(t *testing.T, g *Engine, when *times, vars int) {
	t.Helper()
	log, rest := g.Log(), g.Rest()
	row := slices.Concat(log, rest)
	now := zeros(vars)
	place := map[int]int{}
	for i, e := range row {
		if _, twice := place[e.Id]; twice {
			t.Fatalf("%d stands twice: %v", e.Id, ids(row))
		}
		place[e.Id] = i
		for _, r := range e.Reads {
			if now[r.X] != r.V {
				t.Fatalf("%d read %v of %d, which has %v: %v", e.Id, r.V, r.X, now[r.X], row)
			}
		}
		if !e.Committed && len(e.Writes) > 0 || e.Committed && !e.Over {
			t.Fatalf("an entry: %v", e)
		}
		for _, w := range e.Writes {
			now[w.X] = w.V
		}
		if _, over := when.ended[e.Id]; over != e.Over {
			t.Fatalf("%d: Over is %v", e.Id, e.Over)
		}
	}
	if len(row) != len(when.began) {
		t.Fatalf("%d began, and there are %d: %v", len(when.began), len(row), ids(row))
	}
	if !slices.Equal(now, g.Values()) {
		t.Fatalf("Values: %v, not %v", g.Values(), now)
	}
	if len(when.ended) == len(when.began) && len(rest) > 0 {
		t.Fatalf("nothing is live, and there is a Rest: %v", rest)
	}
	inTime(t, row, when)
}

// inTime checks that nobody stands ahead of one that was over ahead of its
// Begin: from behind, the least end so far may not be ahead of a Begin.
func inTime(t *testing.T, row []Entry, when *times) {
	t.Helper()
	least := math.MaxInt
	for _, e := range slices.Backward(row) {
		began, is := when.began[e.Id]
		if !is {
			t.Fatalf("%d never began", e.Id)
		}
		if least < began {
			t.Fatalf("%d stands ahead of one that was over ahead of its Begin: %v", e.Id, ids(row))
		}
		if ended, over := when.ended[e.Id]; over {
			least = min(least, ended)
		}
	}
}

// call is one call of an engine: which one, and its arguments.
type call struct {
	kind, id, x int
	v           value.Value
}

const (
	begins = iota
	readsX
	writesX
	commits
	aborts
	saves
	backs
	kinds
)

// both does c in the engine and in the model, and checks that they answer alike.
func (c call) both(t *testing.T, g *Engine, m *model) (int, api.Errno) {
	t.Helper()
	var n, wantN int
	var v, wantV value.Value
	var e, wantE api.Errno
	switch c.kind {
	case begins:
		n, e = g.Begin()
		wantN, wantE = m.begin()
	case readsX:
		v, e = g.Read(c.id, c.x)
		wantV, wantE = m.read(c.id, c.x)
	case writesX:
		e = g.Write(c.id, c.x, c.v)
		wantE = m.write(c.id, c.x, c.v)
	case commits:
		e, wantE = g.Commit(c.id), m.commit(c.id)
	case aborts:
		e, wantE = g.Abort(c.id), m.abort(c.id)
	case saves:
		n, e = g.Save(c.id)
		wantN, wantE = m.save(c.id)
	case backs:
		e, wantE = g.Back(c.id, c.x), m.back(c.id, c.x)
	}
	if n != wantN || v != wantV || e != wantE {
		t.Fatalf("%v: %d, %v, %d, not %d, %v, %d", c, n, v, e, wantN, wantV, wantE)
	}
	return n, e
}

// note notes when transactions begin and end.
func (when *times) note(c call, n int, e api.Errno) {
	when.now++
	switch {
	case c.kind == begins && e == api.OK:
		when.began[n] = when.now
	case (c.kind == commits || c.kind == aborts) && e == api.OK:
		when.ended[c.id] = when.now
	case (c.kind == commits || c.kind == readsX) && e == api.ErrCycle:
		when.ended[c.id] = when.now
	}
}

// anyId is mostly the Id of one that is live, else one that is over, or none.
func anyId(d *dice, m *model) int {
	var live []int
	for slot := range 32 {
		if m.p.Live>>slot&1 == 1 {
			live = append(live, m.p.Ids[slot])
		}
	}
	if len(live) == 0 || d.below(12) == 0 {
		return one(d, []int{d.below(m.p.Count + 2), m.p.Count + 1, 0, one(d, far)})
	}
	return one(d, live)
}

// anyCall is a call at what the model says there is, now and then a wrong one.
func anyCall(d *dice, m *model) call {
	mix := []int{begins, begins, readsX, readsX, readsX, readsX, writesX, writesX, writesX, commits, commits, aborts, saves, backs}
	c := call{kind: one(d, mix), id: anyId(d, m), x: d.below(max(len(m.s), 1))}
	if d.below(20) == 0 {
		c.x = one(d, append([]int{len(m.s), len(m.s) + 1}, far...))
	}
	c.v = num(int64(d.below(1000)))
	if d.below(10) == 0 {
		c.v = one(d, rightValues)
	}
	if d.below(30) == 0 {
		c.v = one(d, wrongValues)
	}
	if slot, e := m.slot(c.id); c.kind == backs && e == api.OK {
		c.x = d.below(len(m.did[slot])+3) - 1
	}
	return c
}

func randomCall(t *testing.T, g *Engine, m *model, d *dice) (call, int, api.Errno) {
	t.Helper()
	c := anyCall(d, m)
	n, e := c.both(t, g, m)
	return c, n, e
}

func TestWalks(t *testing.T) {
	d := dice(9)
	seen := map[[2]int]int{}
	for walk := range 1200 {
		slots := one(&d, []int{1, 2, 3, 4, 5, 8, 32})
		vars := one(&d, []int{0, 1, 2, 3, 4, 6, 64})
		if walk%3 > 0 {
			slots, vars = 3+d.below(6), 2+d.below(6)
		}
		g, m, when := New(slots, vars), newModel(slots, vars), newTimes()
		for range 150 {
			c, n, e := randomCall(t, g, m, &d)
			when.note(c, n, e)
			seen[[2]int{c.kind, int(e)}]++
			is(t, g, m.log, m.rest(), store.Values(m.s))
			legal(t, g, when, vars)
		}
		ended(t, g, m, when, &d)
		legal(t, g, when, vars)
	}
	for _, often := range [][2]int{
		{begins, int(api.OK)}, {begins, int(api.ErrFull)},
		{readsX, int(api.OK)}, {readsX, int(api.ErrArg)}, {readsX, int(api.ErrCycle)},
		{commits, int(api.OK)}, {commits, int(api.ErrCycle)}, {commits, int(api.ErrOver)}, {commits, int(api.ErrNone)},
		{backs, int(api.OK)}, {backs, int(api.ErrArg)}, {writesX, int(api.ErrArg)}, {aborts, int(api.OK)},
	} {
		if seen[often] < 100 {
			t.Errorf("call %d answered %d only %d times", often[0], often[1], seen[often])
		}
	}
}

// ended ends all that are live, in any order.
func ended(t *testing.T, g *Engine, m *model, when *times, d *dice) {
	t.Helper()
	for m.p.Live != 0 {
		id := m.p.Ids[one(d, set.Items(m.p.Live))]
		c := call{kind: one(d, []int{commits, aborts}), id: id}
		n, e := c.both(t, g, m)
		when.note(c, n, e)
	}
	is(t, g, m.log, nil, store.Values(m.s))
}

// Walks in which transactions have so many steps that they are full.
func TestWalksWithManySteps(t *testing.T) {
	d := dice(11)
	full := 0
	for range 20 {
		g, m, when := New(3, 64), newModel(3, 64), newTimes()
		for range 1500 {
			c := anyCall(&d, m)
			if rare := c.kind == commits || c.kind == aborts || c.kind == backs; rare && d.below(150) > 0 {
				c.kind = writesX
			}
			n, e := c.both(t, g, m)
			when.note(c, n, e)
			if e == api.ErrFull && c.kind != begins {
				full++
			}
		}
		is(t, g, m.log, m.rest(), store.Values(m.s))
		legal(t, g, when, 64)
		ended(t, g, m, when, &d)
		legal(t, g, when, 64)
	}
	if full < 100 {
		t.Errorf("only %d calls were full", full)
	}
}

// All rows of so many calls of three transactions at two variables.
func TestAllShortRows(t *testing.T) {
	var calls []call
	for id := 1; id <= 3; id++ {
		for x := range 2 {
			calls = append(calls, call{readsX, id, x, value.Value{}}, call{writesX, id, x, num(int64(id))})
		}
		calls = append(calls, call{kind: commits, id: id})
	}
	const long = 4
	row := make([]call, long)
	var next func(i int)
	next = func(i int) {
		if i == long {
			oneRow(t, row)
			return
		}
		for _, c := range calls {
			row[i] = c
			next(i + 1)
		}
	}
	next(0)
}

// oneRow begins three transactions, does the calls, and commits all.
func oneRow(t *testing.T, row []call) {
	t.Helper()
	g, m, when := New(3, 2), newModel(3, 2), newTimes()
	do := func(c call) {
		n, e := c.both(t, g, m)
		when.note(c, n, e)
	}
	for range 3 {
		do(call{kind: begins})
	}
	for _, c := range row {
		do(c)
	}
	legal(t, g, when, 2)
	for id := 1; id <= 3; id++ {
		do(call{kind: commits, id: id})
	}
	is(t, g, m.log, nil, store.Values(m.s))
	legal(t, g, when, 2)
}

// The most slots and variables, for a long time: each transaction adds one to a
// few counters, so that what was committed can be counted.
func TestCounters(t *testing.T) {
	g, when := New(32, 64), newTimes()
	d := dice(64)
	committed, refusals := make([]int64, 64), 0
	var live []int
	for range 20000 {
		if len(live) < 32 && d.below(3) == 0 {
			id, e := g.Begin()
			when.note(call{kind: begins}, id, e)
			if e == api.OK {
				live = append(live, id)
			}
			continue
		}
		if len(live) == 0 {
			continue
		}
		i := d.below(len(live))
		x := one(&d, []int{0, 1, 2, 63, 10 + d.below(50)})
		c := call{kind: readsX, id: live[i], x: x}
		v, e := g.Read(c.id, x)
		if e == api.OK {
			writes(t, g, c.id, x, v.N+1)
			c.kind = commits
			if e = g.Commit(c.id); e == api.OK {
				committed[x]++
			}
		}
		if e == api.ErrCycle {
			refusals++
		}
		when.note(c, 0, e)
		live = slices.Delete(live, i, i+1)
	}
	legal(t, g, when, 64)
	for x, v := range g.Values() {
		if v != num(committed[x]) {
			t.Fatalf("counter %d: %v, not %d", x, v, committed[x])
		}
	}
	if len(g.Log()) < 5000 {
		t.Fatalf("only %d went (%d were refused)", len(g.Log()), refusals)
	}
}

// Two runs of the same calls answer alike.
func TestRunsAreAlike(t *testing.T) {
	for seed := range 20 {
		var logs, rests [2][]Entry
		for run := range 2 {
			d := dice(seed)
			g, m := New(6, 3), newModel(6, 3)
			for range 200 {
				randomCall(t, g, m, &d)
			}
			logs[run], rests[run] = g.Log(), g.Rest()
		}
		if !slices.EqualFunc(logs[0], logs[1], sameEntry) || !slices.EqualFunc(rests[0], rests[1], sameEntry) {
			t.Fatalf("seed %d: two runs are unlike", seed)
		}
	}
}
