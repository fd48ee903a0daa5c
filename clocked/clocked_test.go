package clocked

import (
	"math"
	"slices"
	"testing"

	"warpbeam/api"
	"warpbeam/graph"
	"warpbeam/replay"
	"warpbeam/store"
	"warpbeam/txn"
	"warpbeam/value"
)

// far is numbers that are neither numbers of transactions, nor variables, nor
// places of anything that the tests make, some of them such that a cut to fewer
// bits would take for one.
var far = []int{
	-1, -2, -63, -64, -255, -1 << 8, 1 - 1<<16, -1 << 32, 1 - 1<<32, 1 << 10, 1<<10 + 1, 1 << 16, 1<<16 + 1, 1<<16 + 2,
	1 << 31, 1<<31 + 1, 1 << 32, 1<<32 + 1, 1<<32 + 2, 1<<32 + 3, math.MinInt, math.MinInt + 1, math.MaxInt - 1, math.MaxInt,
}

var rightValues = []value.Value{
	{Kind: value.Nil},
	{Kind: value.Int}, {Kind: value.Int, N: 1}, {Kind: value.Int, N: -1},
	{Kind: value.Int, N: math.MaxInt64}, {Kind: value.Int, N: math.MinInt64},
	{Kind: value.Ref}, {Kind: value.Ref, N: 3}, {Kind: value.Ref, N: 63},
}

var wrongValues = []value.Value{
	{Kind: value.Nil, N: 1}, {Kind: value.Nil, N: -1},
	{Kind: value.Ref, N: -1}, {Kind: value.Ref, N: 64}, {Kind: value.Ref, N: 1 << 32},
	{Kind: -1}, {Kind: 3}, {Kind: 9, N: 7}, {Kind: 1<<32 + 1}, {Kind: math.MinInt},
}

func num(n int64) value.Value { return value.Value{Kind: value.Int, N: n} }

// nums is variables that have these numbers.
func nums(l ...int64) []value.Value {
	out := []value.Value{}
	for _, n := range l {
		out = append(out, num(n))
	}
	return out
}

// zeros is n variables that nobody has written.
func zeros(n int) []value.Value { return nums(make([]int64, n)...) }

func read(x int, n int64) txn.Step { return txn.Step{X: x, V: num(n)} }

func write(x int, n int64) txn.Step { return txn.Step{X: x, V: num(n), Write: true} }

func steps(l ...txn.Step) []txn.Step { return l }

// done, gone and open are the entries of one that is committed, of one that is
// over without that, and of one that is not over.
func done(id int, reads, writes []txn.Step) graph.Entry {
	return graph.Entry{Id: id, Committed: true, Over: true, Reads: reads, Writes: writes}
}

func gone(id int, reads ...txn.Step) graph.Entry {
	return graph.Entry{Id: id, Over: true, Reads: reads}
}

func open(id int, reads ...txn.Step) graph.Entry { return graph.Entry{Id: id, Reads: reads} }

// dice is a row of numbers without a pattern, the same ones in every run.
type dice uint64

func (d *dice) below(n int) int {
	*d = *d*6364136223846793005 + 1442695040888963407
	return int(uint64(*d)>>33) % n
}

func one[T any](d *dice, l []T) T { return l[d.below(len(l))] }

// model answers from the chapter's words, one after the other. What layers 7 and
// 8 are called for it does itself.
type model struct {
	many, clock int
	v           []value.Value
	version     []int
	all         []*who
}

// who is a transaction of the model.
type who struct {
	steps           []txn.Step
	stamp           int
	over, committed bool
}

func newModel(many, vars int) *model {
	return &model{many: many, v: zeros(vars), version: make([]int, vars)}
}

// live is the numbers of those that are not over.
func (m *model) live() []int {
	var l []int
	for i, w := range m.all {
		if !w.over {
			l = append(l, i+1)
		}
	}
	return l
}

func (m *model) who(id int) (*who, api.Errno) {
	if id <= 0 || id > len(m.all) {
		return nil, api.ErrNone
	}
	if m.all[id-1].over {
		return nil, api.ErrOver
	}
	return m.all[id-1], api.OK
}

func (m *model) begin() (int, api.Errno) {
	if len(m.live()) >= m.many {
		return 0, api.ErrFull
	}
	m.all = append(m.all, &who{stamp: m.clock})
	return len(m.all), api.OK
}

// reads and writes are by variables: the first step that is no Write, and the
// last one that is.
func (w *who) reads() []txn.Step {
	var l []txn.Step
	for x := range 64 {
		i := slices.IndexFunc(w.steps, func(s txn.Step) bool { return s.X == x && !s.Write })
		if i >= 0 {
			l = append(l, w.steps[i])
		}
	}
	return l
}

func (w *who) writes() []txn.Step {
	var l []txn.Step
	for x := range 64 {
		last := -1
		for i, s := range w.steps {
			if s.X == x && s.Write {
				last = i
			}
		}
		if last >= 0 {
			l = append(l, w.steps[last])
		}
	}
	return l
}

func (w *who) look(x int) (value.Value, bool) {
	for _, l := range [][]txn.Step{w.writes(), w.reads()} {
		for _, s := range l {
			if s.X == x {
				return s.V, true
			}
		}
	}
	return value.Value{}, false
}

func (m *model) read(id, x int) (value.Value, api.Errno) {
	w, e := m.who(id)
	switch {
	case e != api.OK:
		return value.Value{}, e
	case x < 0 || x >= len(m.v):
		return value.Value{}, api.ErrArg
	}
	if v, known := w.look(x); known {
		return v, api.OK
	}
	if len(w.steps) >= 200 {
		return value.Value{}, api.ErrFull
	}
	if m.version[x] > w.stamp {
		w.over = true
		return value.Value{}, api.ErrLate
	}
	w.steps = append(w.steps, txn.Step{X: x, V: m.v[x]})
	return m.v[x], api.OK
}

func (m *model) write(id, x int, v value.Value) api.Errno {
	w, e := m.who(id)
	switch {
	case e != api.OK:
		return e
	case x < 0 || x >= len(m.v) || !value.Right(v):
		return api.ErrArg
	case len(w.steps) >= 200:
		return api.ErrFull
	}
	w.steps = append(w.steps, txn.Step{X: x, V: v, Write: true})
	return api.OK
}

func (m *model) save(id int) (int, api.Errno) {
	w, e := m.who(id)
	if e != api.OK {
		return 0, e
	}
	return len(w.steps), api.OK
}

func (m *model) back(id, to int) api.Errno {
	w, e := m.who(id)
	if e != api.OK {
		return e
	}
	if to < 0 || to > len(w.steps) {
		return api.ErrArg
	}
	var left []txn.Step
	for i, s := range w.steps {
		if i < to || !s.Write {
			left = append(left, s)
		}
	}
	w.steps = left
	return api.OK
}

func (m *model) commit(id int) api.Errno {
	w, e := m.who(id)
	if e != api.OK {
		return e
	}
	w.over = true
	if len(w.writes()) == 0 {
		w.committed = true
		return api.OK
	}
	for _, r := range w.reads() {
		if m.version[r.X] > w.stamp {
			return api.ErrLate
		}
	}
	m.clock++
	for _, s := range w.writes() {
		m.v[s.X], m.version[s.X] = s.V, m.clock
	}
	w.stamp, w.committed = m.clock, true
	return api.OK
}

func (m *model) abort(id int) api.Errno {
	w, e := m.who(id)
	if e != api.OK {
		return e
	}
	w.over = true
	return api.OK
}

// order goes through the stamps one by one, first for who wrote.
func (m *model) order() []graph.Entry {
	var l []graph.Entry
	for stamp := range m.clock + 1 {
		for _, first := range []bool{true, false} {
			for i, w := range m.all {
				wrote := w.committed && len(w.writes()) > 0
				if w.stamp == stamp && wrote == first {
					l = append(l, w.entry(i+1))
				}
			}
		}
	}
	return l
}

func (w *who) entry(id int) graph.Entry {
	e := graph.Entry{Id: id, Committed: w.committed, Over: w.over, Reads: w.reads()}
	if w.committed {
		e.Writes = w.writes()
	}
	return e
}

func sameEntry(a, b graph.Entry) bool {
	return a.Id == b.Id && a.Committed == b.Committed && a.Over == b.Over && slices.Equal(a.Reads, b.Reads) && slices.Equal(a.Writes, b.Writes)
}

func ids(l []graph.Entry) []int {
	var out []int
	for _, e := range l {
		out = append(out, e.Id)
	}
	return out
}

// is checks all that an engine tells of itself.
func is(t *testing.T, c *Engine, clock int, order []graph.Entry, values []value.Value) {
	t.Helper()
	if n := c.Clock(); n != clock {
		t.Fatalf("Clock: %d, not %d", n, clock)
	}
	if l := c.Order(); !slices.EqualFunc(l, order, sameEntry) {
		t.Fatalf("Order: %v, not %v", l, order)
	}
	if l := c.Values(); !slices.Equal(l, values) {
		t.Fatalf("Values: %v, not %v", l, values)
	}
}

// unmoved checks that what is done leaves all that an engine tells of itself.
func unmoved(t *testing.T, c *Engine, do func()) {
	t.Helper()
	clock, order, values := c.Clock(), c.Order(), c.Values()
	do()
	is(t, c, clock, order, values)
}

// stand checks the clock, and the numbers in Order.
func stand(t *testing.T, c *Engine, clock int, order ...int) {
	t.Helper()
	if l := ids(c.Order()); !slices.Equal(l, order) {
		t.Fatalf("Order: %v, not %v", l, order)
	}
	if n := c.Clock(); n != clock {
		t.Fatalf("Clock: %d, not %d", n, clock)
	}
}

// errno checks an error's number.
func errno(t *testing.T, got, want api.Errno) {
	t.Helper()
	if got != want {
		t.Fatalf("error %d, not %d", got, want)
	}
}

// finds checks what a transaction reads.
func finds(t *testing.T, c *Engine, id, x int, v value.Value) {
	t.Helper()
	if got, e := c.Read(id, x); got != v || e != api.OK {
		t.Fatalf("Read(%d, %d): %v, %d, not %v, 0", id, x, got, e, v)
	}
}

// noRead checks the error of a Read, and that there is nothing beside it.
func noRead(t *testing.T, c *Engine, id, x int, want api.Errno) {
	t.Helper()
	if v, e := c.Read(id, x); v != (value.Value{}) || e != want {
		t.Fatalf("Read(%d, %d): %v, %d, not error %d", id, x, v, e, want)
	}
}

// writes writes numbers, which may be.
func writes(t *testing.T, c *Engine, id, x int, n int64) {
	t.Helper()
	if e := c.Write(id, x, num(n)); e != api.OK {
		t.Fatalf("Write(%d, %d, %d): %d", id, x, n, e)
	}
}

// saved checks how many steps a transaction has.
func saved(t *testing.T, c *Engine, id, want int) {
	t.Helper()
	if to, e := c.Save(id); to != want || e != api.OK {
		t.Fatalf("Save(%d): %d, %d, not %d, 0", id, to, e, want)
	}
}

// begin checks that the next transaction has the number want.
func begin(t *testing.T, c *Engine, want int) {
	t.Helper()
	if id, e := c.Begin(); id != want || e != api.OK {
		t.Fatalf("Begin: %d, %d, not %d, 0", id, e, want)
	}
}

// full checks that there may be no more.
func full(t *testing.T, c *Engine) {
	t.Helper()
	if id, e := c.Begin(); id != 0 || e != api.ErrFull {
		t.Fatalf("Begin: %d, %d, not ErrFull", id, e)
	}
}

// leaves is one more transaction, want, that writes n to x, and is committed.
func leaves(t *testing.T, c *Engine, want, x int, n int64) {
	t.Helper()
	begin(t, c, want)
	writes(t, c, want, x, n)
	errno(t, c.Commit(want), api.OK)
}

// with is an engine for that many and one more, of so many variables, with the
// transactions 1 to many.
func with(t *testing.T, many, vars int) *Engine {
	t.Helper()
	c := New(many+1, vars)
	for id := 1; id <= many; id++ {
		begin(t, c, id)
	}
	return c
}

// withSteps is an engine of 64 variables, in which transaction 1 wrote variable
// 63 n times.
func withSteps(t *testing.T, n int) *Engine {
	t.Helper()
	c := with(t, 1, 64)
	for i := range n {
		writes(t, c, 1, 63, int64(i))
	}
	return c
}

// The chapter's example, and P13.1.

func TestExample(t *testing.T) {
	c := New(1, 1)
	begin(t, c, 1)
	errno(t, c.Write(1, 0, num(5)), api.OK)
	errno(t, c.Commit(1), api.OK)
	is(t, c, 1, []graph.Entry{done(1, nil, steps(write(0, 5)))}, nums(5))
}

func TestNewIsEmpty(t *testing.T) {
	for many := 1; many <= 32; many++ {
		for vars := 0; vars <= 64; vars++ {
			c := New(many, vars)
			if c == nil {
				t.Fatalf("New(%d, %d): nil", many, vars)
			}
			is(t, c, 0, nil, zeros(vars))
			for id := 1; id <= many; id++ {
				begin(t, c, id)
			}
			full(t, c)
			for x := range vars {
				finds(t, c, many, x, num(0))
			}
			noRead(t, c, many, vars, api.ErrArg)
		}
	}
}

func TestNewIsNil(t *testing.T) {
	tooMany := append([]int{0, 33, 34, 63, 64, 65, 96, 256, 257}, far...)
	noVars := append([]int{65, 66, 127, 128, 256, 257}, far...)
	for _, many := range tooMany {
		for _, vars := range append([]int{0, 1, 32, 64}, noVars...) {
			if New(many, vars) != nil {
				t.Errorf("New(%d, %d): not nil", many, vars)
			}
		}
	}
	for _, vars := range noVars {
		for _, many := range []int{1, 2, 31, 32} {
			if New(many, vars) != nil {
				t.Errorf("New(%d, %d): not nil", many, vars)
			}
		}
	}
}

func TestEnginesAreApart(t *testing.T) {
	a, b := New(2, 2), New(2, 2)
	begin(t, a, 1)
	unmoved(t, b, func() {
		writes(t, a, 1, 0, 5)
		finds(t, a, 1, 1, num(0))
		errno(t, a.Commit(1), api.OK)
		begin(t, a, 2)
	})
	errno(t, b.Abort(1), api.ErrNone)
	begin(t, b, 1)
	finds(t, b, 1, 0, num(0))
}

func TestWithoutVariables(t *testing.T) {
	c := New(1, 0)
	begin(t, c, 1)
	for _, x := range append([]int{0, 1, 63, 64}, far...) {
		noRead(t, c, 1, x, api.ErrArg)
		errno(t, c.Write(1, x, num(1)), api.ErrArg)
	}
	errno(t, c.Commit(1), api.OK)
	is(t, c, 0, []graph.Entry{done(1, nil, nil)}, nil)
}

func TestBeginIsFull(t *testing.T) {
	for _, many := range []int{1, 2, 3, 31, 32} {
		c := New(many, 1)
		for id := 1; id <= many; id++ {
			begin(t, c, id)
		}
		for range 3 {
			unmoved(t, c, func() { full(t, c) })
		}
		// a refused Begin uses up no number
		errno(t, c.Abort(many), api.OK)
		begin(t, c, many+1)
		full(t, c)
	}
}

// Room comes by all ways in which a transaction can be over, and one comes in
// for each that is.
func TestBeginAgain(t *testing.T) {
	c := New(3, 2)
	for id := 1; id <= 3; id++ {
		begin(t, c, id)
	}
	finds(t, c, 2, 0, num(0))
	writes(t, c, 2, 1, 1)
	full(t, c)
	writes(t, c, 1, 0, 5)
	errno(t, c.Commit(1), api.OK) // with Writes
	begin(t, c, 4)
	full(t, c)
	noRead(t, c, 3, 0, api.ErrLate) // by a Read
	begin(t, c, 5)
	full(t, c)
	errno(t, c.Commit(2), api.ErrLate) // by a Commit
	begin(t, c, 6)
	full(t, c)
	errno(t, c.Commit(4), api.OK) // without Writes
	begin(t, c, 7)
	full(t, c)
	errno(t, c.Abort(5), api.OK)
	begin(t, c, 8)
	full(t, c)
	// who is over is over once
	errno(t, c.Abort(5), api.ErrOver)
	errno(t, c.Commit(2), api.ErrOver)
	noRead(t, c, 3, 0, api.ErrOver)
	full(t, c)
	errno(t, c.Abort(6), api.OK)
	errno(t, c.Abort(7), api.OK)
	begin(t, c, 9)
	begin(t, c, 10)
	full(t, c)
	stand(t, c, 1, 2, 3, 1, 4, 5, 6, 7, 8, 9, 10)
}

func TestMoreThanSlotsInAll(t *testing.T) {
	c := New(32, 1)
	for id := 1; id <= 300; id++ {
		begin(t, c, id)
		finds(t, c, id, 0, num(int64(id-1)))
		writes(t, c, id, 0, int64(id))
		errno(t, c.Commit(id), api.OK)
	}
	for id := 301; id <= 332; id++ {
		begin(t, c, id)
	}
	full(t, c)
	if l := c.Order(); len(l) != 332 || c.Clock() != 300 {
		t.Fatalf("%d entries, the clock %d", len(l), c.Clock())
	}
	refused(t, c, 1, api.ErrOver)
	refused(t, c, 300, api.ErrOver)
	refused(t, c, 333, api.ErrNone)
}

// The stamp is the clock at the Begin: what was committed behind that is above
// it, what was committed ahead of it is not.
func TestStamps(t *testing.T) {
	const vars = 6
	for ahead := range vars {
		for behind := range vars - ahead {
			c := New(3, vars)
			begin(t, c, 1)
			for x := range ahead {
				leaves(t, c, 2+x, x, 5)
			}
			reader := 2 + ahead
			begin(t, c, reader)
			for x := range behind {
				leaves(t, c, reader+1+x, ahead+x, 6)
			}
			for x := range ahead {
				finds(t, c, reader, x, num(5))
			}
			for x := ahead + behind; x < vars; x++ {
				finds(t, c, reader, x, num(0))
			}
			want := []int{}
			for id := 1; id <= reader+behind; id++ {
				want = append(want, id)
			}
			stand(t, c, ahead+behind, want...)
			if behind > 0 {
				noRead(t, c, reader, ahead+behind-1, api.ErrLate)
			}
			stand(t, c, ahead+behind, want...)
		}
	}
}

// What no call made.

func TestNilAndZeroEngines(t *testing.T) {
	for _, c := range []*Engine{nil, {}, new(Engine), New(0, 1), New(1, 65)} {
		for range 2 {
			for _, n := range append([]int{0, 1, 2, 64}, far...) {
				noRead(t, c, n, n, api.ErrNil)
				noRead(t, c, 1, n, api.ErrNil)
				errno(t, c.Write(n, 0, num(1)), api.ErrNil)
				errno(t, c.Write(n, n, value.Value{Kind: 9}), api.ErrNil)
				errno(t, c.Commit(n), api.ErrNil)
				errno(t, c.Abort(n), api.ErrNil)
				errno(t, c.Back(n, n), api.ErrNil)
				if to, e := c.Save(n); to != 0 || e != api.ErrNil {
					t.Fatalf("Save: %d, %d", to, e)
				}
			}
			if id, e := c.Begin(); id != 0 || e != api.ErrNil {
				t.Fatalf("Begin: %d, %d", id, e)
			}
			is(t, c, 0, nil, nil)
		}
	}
}

// P13.2.

// refused checks that all calls with that id, with right arguments beside it and
// with wrong ones, answer that error, and leave the engine as it is.
func refused(t *testing.T, c *Engine, id int, want api.Errno) {
	t.Helper()
	unmoved(t, c, func() {
		for _, x := range []int{0, -1, 64, math.MaxInt} {
			noRead(t, c, id, x, want)
			for _, v := range []value.Value{num(1), {Kind: 9}} {
				errno(t, c.Write(id, x, v), want)
			}
			errno(t, c.Back(id, x), want)
		}
		errno(t, c.Commit(id), want)
		errno(t, c.Abort(id), want)
		if to, e := c.Save(id); to != 0 || e != want {
			t.Fatalf("Save(%d): %d, %d, not error %d", id, to, e, want)
		}
	})
}

func TestNumbersOfNone(t *testing.T) {
	c := New(3, 1)
	for _, id := range append([]int{0, 1, 2, 3}, far...) {
		refused(t, c, id, api.ErrNone)
	}
	for id := 1; id <= 3; id++ {
		begin(t, c, id)
		for _, other := range append([]int{0, id + 1, id + 2, id + 32, id + 64, id + 256}, far...) {
			refused(t, c, other, api.ErrNone)
		}
	}
	full(t, c)
	refused(t, c, 4, api.ErrNone)
	errno(t, c.Abort(2), api.OK)
	refused(t, c, 4, api.ErrNone)
	begin(t, c, 4)
	refused(t, c, 5, api.ErrNone)
	writes(t, c, 4, 0, 1)
}

func TestNumbersOfThoseThatAreOver(t *testing.T) {
	c := with(t, 6, 2)
	finds(t, c, 5, 0, num(0))
	writes(t, c, 5, 1, 9)
	writes(t, c, 6, 1, 9)
	errno(t, c.Abort(1), api.OK)
	refused(t, c, 1, api.ErrOver)
	errno(t, c.Commit(2), api.OK)
	refused(t, c, 2, api.ErrOver)
	writes(t, c, 3, 0, 5)
	errno(t, c.Commit(3), api.OK)
	refused(t, c, 3, api.ErrOver)
	noRead(t, c, 4, 0, api.ErrLate)
	refused(t, c, 4, api.ErrOver)
	errno(t, c.Commit(5), api.ErrLate)
	for id := 1; id <= 5; id++ {
		refused(t, c, id, api.ErrOver)
	}
	begin(t, c, 7)
	for id := 1; id <= 5; id++ {
		refused(t, c, id, api.ErrOver)
	}
	refused(t, c, 8, api.ErrNone)
	finds(t, c, 6, 1, num(9))
	finds(t, c, 7, 0, num(5))
}

func TestWrite(t *testing.T) {
	c := with(t, 2, 64)
	for _, x := range []int{0, 1, 62, 63} {
		for _, v := range rightValues {
			errno(t, c.Write(1, x, v), api.OK)
			finds(t, c, 1, x, v)
			finds(t, c, 2, x, num(0))
		}
		if c.Values()[x] != num(0) {
			t.Fatal("what is written is there ahead of the Commit")
		}
	}
	saved(t, c, 1, 4*len(rightValues))
	if e := c.Order()[0]; !sameEntry(e, open(1)) {
		t.Fatalf("its entry: %v", e)
	}
	errno(t, c.Commit(1), api.OK)
	v := rightValues[len(rightValues)-1]
	for x, got := range c.Values() {
		if written := x < 2 || x > 61; written && got != v || !written && got != num(0) {
			t.Fatalf("variable %d: %v", x, got)
		}
	}
}

func TestWriteOfAllRightValues(t *testing.T) {
	for _, v := range rightValues {
		c := with(t, 1, 2)
		errno(t, c.Write(1, 1, v), api.OK)
		errno(t, c.Commit(1), api.OK)
		if l := c.Values(); l[0] != num(0) || l[1] != v {
			t.Fatalf("Values: %v, of %v", l, v)
		}
		begin(t, c, 2)
		finds(t, c, 2, 1, v)
	}
}

func TestWriteOfWhatMayNotBe(t *testing.T) {
	for _, vars := range []int{1, 2, 63, 64} {
		c := with(t, 1, vars)
		for _, v := range append(wrongValues, num(1), num(0)) {
			for _, x := range append([]int{vars, vars + 1, 64, 65}, far...) {
				errno(t, c.Write(1, x, v), api.ErrArg)
			}
		}
		for _, v := range wrongValues {
			errno(t, c.Write(1, 0, v), api.ErrArg)
			errno(t, c.Write(1, vars-1, v), api.ErrArg)
		}
		saved(t, c, 1, 0)
		errno(t, c.Commit(1), api.OK)
		is(t, c, 0, []graph.Entry{done(1, nil, nil)}, zeros(vars))
	}
}

func TestWriteAtTheMostSteps(t *testing.T) {
	c := withSteps(t, 199)
	writes(t, c, 1, 0, 7)
	errno(t, c.Write(1, 0, num(8)), api.ErrFull)
	errno(t, c.Write(1, 5, num(8)), api.ErrFull)
	errno(t, c.Write(1, 5, value.Value{Kind: 9}), api.ErrArg)
	errno(t, c.Write(1, 64, num(8)), api.ErrArg)
	errno(t, c.Write(1, -1, num(8)), api.ErrArg)
	saved(t, c, 1, 200)
	errno(t, c.Commit(1), api.OK)
	want := zeros(64)
	want[0], want[63] = num(7), num(198)
	is(t, c, 1, []graph.Entry{done(1, nil, steps(write(0, 7), write(63, 198)))}, want)
}

func TestSaveAndBack(t *testing.T) {
	c := with(t, 1, 4)
	writes(t, c, 1, 1, 5)
	saved(t, c, 1, 1)
	writes(t, c, 1, 1, 6)
	finds(t, c, 1, 2, num(0))
	writes(t, c, 1, 3, 7)
	unmoved(t, c, func() {
		for _, wrong := range append([]int{5, 6, 200, 201}, far...) {
			errno(t, c.Back(1, wrong), api.ErrArg)
		}
		finds(t, c, 1, 1, num(6))
		finds(t, c, 1, 3, num(7))
		saved(t, c, 1, 4)
	})
	errno(t, c.Back(1, 4), api.OK)
	finds(t, c, 1, 1, num(6))
	finds(t, c, 1, 3, num(7))
	errno(t, c.Back(1, 1), api.OK)
	finds(t, c, 1, 1, num(5))
	saved(t, c, 1, 2) // the Write of 1, and the Read of 2
	errno(t, c.Commit(1), api.OK)
	is(t, c, 1, []graph.Entry{done(1, steps(read(2, 0)), steps(write(1, 5)))}, nums(0, 5, 0, 0))
}

func TestBackToNothing(t *testing.T) {
	c := with(t, 1, 2)
	saved(t, c, 1, 0)
	errno(t, c.Back(1, 0), api.OK)
	errno(t, c.Back(1, 1), api.ErrArg)
	errno(t, c.Back(1, -1), api.ErrArg)
	writes(t, c, 1, 0, 5)
	finds(t, c, 1, 1, num(0))
	errno(t, c.Back(1, 0), api.OK)
	saved(t, c, 1, 1) // what was read stays
	errno(t, c.Back(1, 0), api.OK)
	saved(t, c, 1, 1)
	errno(t, c.Abort(1), api.OK)
	is(t, c, 0, []graph.Entry{gone(1, read(1, 0))}, zeros(2))
}

// P13.3.

func TestReadOfNoVariable(t *testing.T) {
	for _, vars := range []int{1, 2, 63, 64} {
		c := with(t, 1, vars)
		finds(t, c, 1, vars-1, num(0))
		unmoved(t, c, func() {
			for _, x := range append([]int{vars, vars + 1, 64, 65, 128, 256}, far...) {
				noRead(t, c, 1, x, api.ErrArg)
			}
		})
		finds(t, c, 1, 0, num(0))
	}
}

func TestReadOfItsOwn(t *testing.T) {
	c := with(t, 1, 2)
	for _, v := range rightValues {
		errno(t, c.Write(1, 0, v), api.OK)
		finds(t, c, 1, 0, v)
	}
	// that is no step, and nothing that was read, so that nobody makes it late
	saved(t, c, 1, len(rightValues))
	leaves(t, c, 2, 0, 7)
	finds(t, c, 1, 0, rightValues[len(rightValues)-1])
	writes(t, c, 1, 0, 8)
	errno(t, c.Commit(1), api.OK)
	is(t, c, 2, []graph.Entry{done(2, nil, steps(write(0, 7))), done(1, nil, steps(write(0, 8)))}, nums(8, 0))
}

func TestReadAgain(t *testing.T) {
	c := with(t, 1, 2)
	finds(t, c, 1, 0, num(0))
	leaves(t, c, 2, 0, 5)
	finds(t, c, 1, 0, num(0))
	leaves(t, c, 3, 0, 6)
	finds(t, c, 1, 0, num(0))
	saved(t, c, 1, 1) // a Read again is no step
	writes(t, c, 1, 0, 8)
	finds(t, c, 1, 0, num(8))
	is(t, c, 2, []graph.Entry{open(1, read(0, 0)), done(2, nil, steps(write(0, 5))), done(3, nil, steps(write(0, 6)))}, nums(6, 0))
}

// Behind a Back, a Read is what was read, if the transaction did, though that
// was committed over since, or else what there is.
func TestReadOfWhatWasTakenBack(t *testing.T) {
	c := with(t, 2, 2)
	finds(t, c, 1, 0, num(0))
	writes(t, c, 1, 0, 5)
	writes(t, c, 1, 1, 6)
	finds(t, c, 1, 0, num(5))
	finds(t, c, 1, 1, num(6))
	leaves(t, c, 3, 0, 7)
	errno(t, c.Back(1, 1), api.OK)
	finds(t, c, 1, 0, num(0))
	finds(t, c, 1, 1, num(0))
	errno(t, c.Commit(1), api.OK)
	stand(t, c, 1, 1, 2, 3)
	if e := c.Order()[0]; !sameEntry(e, done(1, steps(read(0, 0), read(1, 0)), nil)) {
		t.Fatalf("its entry: %v", e)
	}
	// what it wrote and took back, and never read, is too new for it
	writes(t, c, 2, 0, 8)
	finds(t, c, 2, 0, num(8))
	errno(t, c.Back(2, 0), api.OK)
	noRead(t, c, 2, 0, api.ErrLate)
	is(t, c, 1, []graph.Entry{
		done(1, steps(read(0, 0), read(1, 0)), nil), gone(2), done(3, nil, steps(write(0, 7))),
	}, nums(7, 0))
}

func TestReadOfAWriteThatWasWrittenOver(t *testing.T) {
	c := with(t, 1, 1)
	writes(t, c, 1, 0, 5)
	saved(t, c, 1, 1)
	writes(t, c, 1, 0, 6)
	writes(t, c, 1, 0, 7)
	finds(t, c, 1, 0, num(7))
	errno(t, c.Back(1, 2), api.OK)
	finds(t, c, 1, 0, num(6))
	errno(t, c.Back(1, 1), api.OK)
	finds(t, c, 1, 0, num(5))
	errno(t, c.Back(1, 0), api.OK)
	finds(t, c, 1, 0, num(0))
}

func TestReadAtTheMostSteps(t *testing.T) {
	c := withSteps(t, 199)
	finds(t, c, 1, 0, num(0))
	unmoved(t, c, func() {
		noRead(t, c, 1, 1, api.ErrFull)
		noRead(t, c, 1, 64, api.ErrArg)
		noRead(t, c, 1, -1, api.ErrArg)
		finds(t, c, 1, 0, num(0))
		finds(t, c, 1, 63, num(198))
	})
	saved(t, c, 1, 200)
	errno(t, c.Back(1, 0), api.OK)
	saved(t, c, 1, 1)
	finds(t, c, 1, 1, num(0))
	errno(t, c.Commit(1), api.OK)
	is(t, c, 0, []graph.Entry{done(1, steps(read(0, 0), read(1, 0)), nil)}, zeros(64))
}

// A transaction with the most steps is told that first: it is not late, and goes
// on.
func TestReadThatIsFullIsNotLate(t *testing.T) {
	c := withSteps(t, 200)
	leaves(t, c, 2, 1, 5)
	unmoved(t, c, func() { noRead(t, c, 1, 1, api.ErrFull) })
	stand(t, c, 1, 1, 2)
	errno(t, c.Back(1, 199), api.OK)
	noRead(t, c, 1, 1, api.ErrLate)
	refused(t, c, 1, api.ErrOver)
}

func TestReadThatIsLate(t *testing.T) {
	for _, n := range []int64{5, 0} { // 0 is what the variable has already
		c := with(t, 2, 3)
		finds(t, c, 1, 1, num(0))
		writes(t, c, 1, 2, 9)
		leaves(t, c, 3, 0, n)
		noRead(t, c, 1, 0, api.ErrLate)
		is(t, c, 1, []graph.Entry{gone(1, read(1, 0)), open(2), done(3, nil, steps(write(0, n)))}, nums(n, 0, 0))
		refused(t, c, 1, api.ErrOver)
		// what nobody wrote since may be read
		finds(t, c, 2, 2, num(0))
		noRead(t, c, 2, 0, api.ErrLate)
	}
}

func TestReadThatIsNotLate(t *testing.T) {
	c := New(3, 3)
	begin(t, c, 1)
	leaves(t, c, 2, 0, 5)
	leaves(t, c, 3, 1, 6)
	begin(t, c, 4)
	finds(t, c, 4, 0, num(5)) // committed ahead of its Begin
	finds(t, c, 4, 1, num(6)) // the last one ahead of its Begin
	finds(t, c, 1, 2, num(0)) // committed by nobody
	leaves(t, c, 5, 0, 7)
	finds(t, c, 4, 0, num(5)) // known already
	writes(t, c, 1, 1, 8)
	finds(t, c, 1, 1, num(8)) // its own
	finds(t, c, 4, 2, num(0))
	begin(t, c, 6)
	finds(t, c, 6, 0, num(7))
	noRead(t, c, 1, 0, api.ErrLate)
	stand(t, c, 3, 1, 2, 3, 4, 5, 6)
}

// Who began with the clock at a number reads what was put at that number, by one
// that began behind it, too.
func TestReadAtTheStampItself(t *testing.T) {
	for many := range 5 {
		c := New(2, 1)
		for i := range many {
			leaves(t, c, i+1, 0, int64(i+1))
		}
		begin(t, c, many+1)
		leaves(t, c, many+2, 0, 99)
		noRead(t, c, many+1, 0, api.ErrLate)
		begin(t, c, many+3)
		finds(t, c, many+3, 0, num(99))
	}
}

// Who is aborted, or late, or only reads, makes nobody late.
func TestWhoLeavesNothingMakesNobodyLate(t *testing.T) {
	c := with(t, 4, 3)
	writes(t, c, 1, 0, 5)
	errno(t, c.Abort(1), api.OK)
	finds(t, c, 2, 0, num(0))
	errno(t, c.Commit(2), api.OK)
	finds(t, c, 3, 2, num(0))
	writes(t, c, 3, 0, 6)
	leaves(t, c, 5, 2, 7)
	errno(t, c.Commit(3), api.ErrLate)
	finds(t, c, 4, 0, num(0))
	finds(t, c, 4, 1, num(0))
	writes(t, c, 4, 0, 8)
	errno(t, c.Commit(4), api.OK)
	stand(t, c, 2, 1, 2, 3, 5, 4)
}

// P13.4.

func TestCommitWithoutWrites(t *testing.T) {
	c := with(t, 3, 2)
	finds(t, c, 2, 0, num(0))
	finds(t, c, 3, 1, num(0))
	errno(t, c.Commit(1), api.OK) // without anything
	leaves(t, c, 4, 0, 5)
	errno(t, c.Commit(2), api.OK) // what it read was committed over
	errno(t, c.Commit(3), api.OK)
	is(t, c, 1, []graph.Entry{
		done(1, nil, nil), done(2, steps(read(0, 0)), nil), done(3, steps(read(1, 0)), nil), done(4, nil, steps(write(0, 5))),
	}, nums(5, 0))
}

func TestCommitOfWritesThatWereTakenBack(t *testing.T) {
	c := with(t, 2, 2)
	finds(t, c, 1, 0, num(0))
	writes(t, c, 1, 0, 5)
	writes(t, c, 1, 1, 6)
	leaves(t, c, 3, 0, 7)
	errno(t, c.Back(1, 1), api.OK)
	errno(t, c.Commit(1), api.OK)
	is(t, c, 1, []graph.Entry{
		done(1, steps(read(0, 0)), nil), open(2), done(3, nil, steps(write(0, 7))),
	}, nums(7, 0))
	// of two, one is taken back: it wrote still
	finds(t, c, 2, 1, num(0))
	writes(t, c, 2, 1, 8)
	writes(t, c, 2, 0, 9)
	errno(t, c.Back(2, 2), api.OK)
	errno(t, c.Commit(2), api.OK)
	is(t, c, 2, []graph.Entry{
		done(1, steps(read(0, 0)), nil), done(3, nil, steps(write(0, 7))), done(2, steps(read(1, 0)), steps(write(1, 8))),
	}, nums(7, 8))
}

func TestCommitThatIsLate(t *testing.T) {
	for _, n := range []int64{5, 0} { // 0 is what the variable has already
		for x := range 3 {
			c := with(t, 1, 4)
			for y := range 3 {
				finds(t, c, 1, y, num(0))
			}
			writes(t, c, 1, 3, 9)
			leaves(t, c, 2, x, n)
			errno(t, c.Commit(1), api.ErrLate)
			want := zeros(4)
			want[x] = num(n)
			is(t, c, 1, []graph.Entry{
				gone(1, read(0, 0), read(1, 0), read(2, 0)), done(2, nil, steps(write(x, n))),
			}, want)
			refused(t, c, 1, api.ErrOver)
		}
	}
}

// Who reads and writes one variable is late, too, if another one did so.
func TestCommitOfTwoCounts(t *testing.T) {
	c := with(t, 2, 1)
	for id := 1; id <= 2; id++ {
		finds(t, c, id, 0, num(0))
		writes(t, c, id, 0, 1)
	}
	errno(t, c.Commit(2), api.OK)
	errno(t, c.Commit(1), api.ErrLate)
	is(t, c, 1, []graph.Entry{gone(1, read(0, 0)), done(2, steps(read(0, 0)), steps(write(0, 1)))}, nums(1))
}

// A Read behind an own Write is no Read, and one that was there ahead of it is
// one, also where the Write is taken back.
func TestCommitAsksForReadsAlone(t *testing.T) {
	c := with(t, 2, 2)
	writes(t, c, 1, 0, 5)
	finds(t, c, 1, 0, num(5))
	finds(t, c, 2, 0, num(0))
	writes(t, c, 2, 0, 6)
	writes(t, c, 2, 1, 6)
	leaves(t, c, 3, 0, 7)
	errno(t, c.Commit(1), api.OK)
	errno(t, c.Back(2, 1), api.OK)
	writes(t, c, 2, 1, 8)
	errno(t, c.Commit(2), api.ErrLate)
	is(t, c, 2, []graph.Entry{
		gone(2, read(0, 0)), done(3, nil, steps(write(0, 7))), done(1, nil, steps(write(0, 5))),
	}, nums(5, 0))
}

// Only a variable that it writes was committed over: that is not late.
func TestCommitOverOthers(t *testing.T) {
	c := with(t, 2, 3)
	finds(t, c, 1, 1, num(0))
	writes(t, c, 1, 0, 5)
	writes(t, c, 2, 0, 6)
	writes(t, c, 2, 2, 6)
	errno(t, c.Commit(2), api.OK)
	errno(t, c.Commit(1), api.OK)
	is(t, c, 2, []graph.Entry{
		done(2, nil, steps(write(0, 6), write(2, 6))), done(1, steps(read(1, 0)), steps(write(0, 5))),
	}, nums(5, 0, 6))
}

// What was read at the Begin's own clock is not above the stamp.
func TestCommitOfReadsThatStand(t *testing.T) {
	c := New(2, 3)
	leaves(t, c, 1, 0, 1)
	leaves(t, c, 2, 1, 2)
	begin(t, c, 3)
	finds(t, c, 3, 0, num(1))
	finds(t, c, 3, 1, num(2))
	writes(t, c, 3, 0, 3)
	leaves(t, c, 4, 2, 4)
	errno(t, c.Commit(3), api.OK)
	is(t, c, 4, []graph.Entry{
		done(1, nil, steps(write(0, 1))), done(2, nil, steps(write(1, 2))), done(4, nil, steps(write(2, 4))),
		done(3, steps(read(0, 1), read(1, 2)), steps(write(0, 3))),
	}, nums(3, 2, 4))
}

// The clock is one more for each that wrote, however much, and for no other.
func TestClock(t *testing.T) {
	c := with(t, 7, 64)
	clock := func(want int) {
		t.Helper()
		if n := c.Clock(); n != want {
			t.Fatalf("Clock: %d, not %d", n, want)
		}
	}
	finds(t, c, 2, 0, num(0))
	finds(t, c, 3, 0, num(0))
	writes(t, c, 3, 5, 1)
	for x := range 64 {
		writes(t, c, 1, x, 1)
		writes(t, c, 4, x, 2)
		writes(t, c, 5, x, 3)
	}
	clock(0)
	errno(t, c.Commit(1), api.OK)
	clock(1)
	errno(t, c.Commit(2), api.OK)
	clock(1)
	errno(t, c.Commit(3), api.ErrLate)
	clock(1)
	errno(t, c.Abort(4), api.OK)
	clock(1)
	noRead(t, c, 6, 0, api.ErrLate)
	clock(1)
	errno(t, c.Commit(5), api.OK)
	clock(2)
	errno(t, c.Commit(5), api.ErrOver)
	clock(2)
	errno(t, c.Commit(7), api.OK)
	clock(2)
	if l := c.Values(); !slices.Equal(l, slices.Repeat(nums(3), 64)) {
		t.Fatalf("Values: %v", l)
	}
}

// The clock as a Version is told by no call, but the store has it, and no
// Writer, and no Marks.
func TestVersions(t *testing.T) {
	c := with(t, 3, 3)
	has := func(x int, v value.Value, version int) {
		t.Helper()
		if got, _ := store.Get(c.store, x); got != (store.Var{V: v, Version: version, Writer: -1}) {
			t.Fatalf("variable %d: %v", x, got)
		}
	}
	finds(t, c, 1, 0, num(0))
	writes(t, c, 1, 0, 5)
	writes(t, c, 1, 2, 6)
	has(0, num(0), 0)
	errno(t, c.Commit(1), api.OK)
	has(0, num(5), 1)
	has(1, num(0), 0)
	has(2, num(6), 1)
	writes(t, c, 2, 2, 7)
	errno(t, c.Commit(2), api.OK)
	errno(t, c.Commit(3), api.OK)
	has(0, num(5), 1)
	has(1, num(0), 0)
	has(2, num(7), 2)
}

func TestAbort(t *testing.T) {
	c := with(t, 3, 2)
	writes(t, c, 1, 0, 5)
	finds(t, c, 1, 1, num(0))
	errno(t, c.Abort(1), api.OK)
	errno(t, c.Abort(3), api.OK)
	is(t, c, 0, []graph.Entry{gone(1, read(1, 0)), open(2), gone(3)}, zeros(2))
	finds(t, c, 2, 0, num(0))
	leaves(t, c, 4, 0, 6)
	errno(t, c.Abort(2), api.OK) // it would be late
	is(t, c, 1, []graph.Entry{gone(1, read(1, 0)), gone(2, read(0, 0)), gone(3), done(4, nil, steps(write(0, 6)))}, nums(6, 0))
}

// P13.5.

// Who is committed with Writes goes to its new stamp, all others stay.
func TestOrderByStamps(t *testing.T) {
	c := New(8, 2)
	begin(t, c, 1)
	begin(t, c, 2)
	begin(t, c, 3)
	writes(t, c, 1, 0, 5)
	finds(t, c, 3, 1, num(0))
	stand(t, c, 0, 1, 2, 3)
	errno(t, c.Commit(1), api.OK)
	stand(t, c, 1, 2, 3, 1)
	begin(t, c, 4)
	begin(t, c, 5)
	stand(t, c, 1, 2, 3, 1, 4, 5)
	writes(t, c, 4, 0, 6)
	errno(t, c.Commit(4), api.OK)
	stand(t, c, 2, 2, 3, 1, 5, 4)
	begin(t, c, 6)
	errno(t, c.Commit(3), api.OK)
	stand(t, c, 2, 2, 3, 1, 5, 4, 6)
	writes(t, c, 2, 1, 7)
	errno(t, c.Commit(2), api.OK) // the first of all is the last one
	begin(t, c, 7)
	errno(t, c.Abort(6), api.OK)
	noRead(t, c, 5, 1, api.ErrLate)
	is(t, c, 3, []graph.Entry{
		done(3, steps(read(1, 0)), nil),
		done(1, nil, steps(write(0, 5))),
		gone(5),
		done(4, nil, steps(write(0, 6))),
		gone(6),
		done(2, nil, steps(write(1, 7))),
		open(7),
	}, nums(6, 7))
}

// Of one stamp, who was committed with Writes is first, then the others by their
// numbers, however they stand.
func TestOrderOfOneStamp(t *testing.T) {
	c := New(6, 2)
	begin(t, c, 1)
	begin(t, c, 2)
	writes(t, c, 2, 0, 5)
	errno(t, c.Commit(2), api.OK)
	for id := 3; id <= 6; id++ {
		begin(t, c, id)
		finds(t, c, id, 0, num(5))
	}
	writes(t, c, 3, 1, 6)
	errno(t, c.Abort(5), api.OK)
	errno(t, c.Commit(6), api.OK)
	leaves(t, c, 7, 0, 8)
	errno(t, c.Commit(3), api.ErrLate)
	errno(t, c.Commit(1), api.OK)
	is(t, c, 2, []graph.Entry{
		done(1, nil, nil),
		done(2, nil, steps(write(0, 5))),
		gone(3, read(0, 5)), open(4, read(0, 5)), gone(5, read(0, 5)), done(6, steps(read(0, 5)), nil),
		done(7, nil, steps(write(0, 8))),
	}, nums(8, 0))
}

// Many more of one stamp than a sort of few leaves in order by itself.
func TestOrderOfManyOfOneStamp(t *testing.T) {
	c := New(32, 1)
	want := []int{}
	id := 0
	for stamp := range 6 {
		for range 40 {
			id++
			begin(t, c, id)
			errno(t, c.Abort(id), api.OK)
			want = append(want, id)
		}
		id++
		leaves(t, c, id, 0, int64(stamp))
		want = append(want, id)
	}
	stand(t, c, 6, want...)
}

func TestEntriesOfThoseThatAreNotOver(t *testing.T) {
	c := with(t, 2, 4)
	finds(t, c, 1, 3, num(0))
	finds(t, c, 1, 0, num(0))
	writes(t, c, 1, 0, 5)
	writes(t, c, 1, 1, 6)
	is(t, c, 0, []graph.Entry{open(1, read(0, 0), read(3, 0)), open(2)}, zeros(4))
	finds(t, c, 1, 2, num(0))
	is(t, c, 0, []graph.Entry{open(1, read(0, 0), read(2, 0), read(3, 0)), open(2)}, zeros(4))
}

// What an entry of one that is over tells rises by the variables, its Reads
// being the first ones, and its Writes the last ones.
func TestEntriesOfThoseThatAreOver(t *testing.T) {
	c := with(t, 2, 5)
	for id := 1; id <= 2; id++ {
		writes(t, c, id, 4, 1)
		finds(t, c, id, 3, num(0))
		writes(t, c, id, 3, 2)
		finds(t, c, id, 3, num(2))
		finds(t, c, id, 1, num(0))
		writes(t, c, id, 0, 3)
		writes(t, c, id, 4, 4)
		writes(t, c, id, 2, 5)
	}
	errno(t, c.Abort(2), api.OK)
	errno(t, c.Commit(1), api.OK)
	is(t, c, 1, []graph.Entry{
		gone(2, read(1, 0), read(3, 0)),
		done(1, steps(read(1, 0), read(3, 0)), steps(write(0, 3), write(2, 5), write(3, 2), write(4, 4))),
	}, nums(3, 0, 5, 2, 4))
}

func TestTellingChangesNothing(t *testing.T) {
	c := with(t, 3, 2)
	finds(t, c, 2, 0, num(0))
	writes(t, c, 1, 0, 5)
	errno(t, c.Commit(1), api.OK)
	want := c.Order()
	for range 5 {
		is(t, c, 1, want, nums(5, 0))
	}
	stand(t, c, 1, 2, 3, 1)
}

// scribble writes over all that a list of entries has, and over the room that
// its parts may have behind their ends.
func scribble(l []graph.Entry) {
	for i := range l {
		for _, steps := range [][]txn.Step{l[i].Reads, l[i].Writes} {
			steps = steps[:cap(steps)]
			for j := range steps {
				steps[j] = txn.Step{X: 77, V: num(-77), Write: j%2 == 0}
			}
		}
	}
	l = l[:cap(l)]
	for i := range l {
		l[i] = graph.Entry{Id: -5, Reads: []txn.Step{read(9, 9)}}
	}
}

func TestWhatIsToldMayBeWrittenOver(t *testing.T) {
	c, m := New(5, 3), newModel(5, 3)
	d := dice(99)
	for range 1000 {
		anyCall(&d, m).both(t, c, m)
		unmoved(t, c, func() {
			scribble(c.Order())
			values := c.Values()
			values = values[:cap(values)]
			for i := range values {
				values[i] = num(-99)
			}
		})
		is(t, c, m.clock, m.order(), m.v)
	}
	if c.Clock() < 20 {
		t.Fatalf("only %d wrote", c.Clock())
	}
}

// What was told stays as it is, whatever comes behind it.
func TestWhatWasToldStays(t *testing.T) {
	c, m := New(4, 3), newModel(4, 3)
	d := dice(5)
	type told struct {
		order, wantOrder   []graph.Entry
		values, wantValues []value.Value
	}
	var all []told
	for range 200 {
		anyCall(&d, m).both(t, c, m)
		all = append(all, told{c.Order(), m.order(), c.Values(), slices.Clone(m.v)})
	}
	for i, a := range all {
		if !slices.EqualFunc(a.order, a.wantOrder, sameEntry) || !slices.Equal(a.values, a.wantValues) {
			t.Fatalf("behind call %d: %v, %v, not %v, %v", i, a.order, a.values, a.wantOrder, a.wantValues)
		}
	}
}

// No two lists of one answer share memory: each is written over in turn, and the
// others keep what they had.
func TestListsOfOneAnswerAreApart(t *testing.T) {
	c := with(t, 4, 2)
	for id := 1; id <= 4; id++ {
		finds(t, c, id, 0, num(0))
		finds(t, c, id, 1, num(0))
	}
	errno(t, c.Abort(2), api.OK)
	errno(t, c.Commit(3), api.OK)
	writes(t, c, 1, 0, 5)
	writes(t, c, 1, 1, 6)
	errno(t, c.Commit(1), api.OK)
	lists := func(l []graph.Entry) (all [][]txn.Step) {
		for _, e := range l {
			all = append(all, e.Reads, e.Writes)
		}
		return all
	}
	mine, theirs := lists(c.Order()), lists(c.Order())
	for i := range mine {
		whole := mine[i][:cap(mine[i])]
		for k := range whole {
			whole[k] = read(40+i, int64(40+k))
		}
		for j := range theirs {
			if j > i && !slices.Equal(mine[j], theirs[j]) {
				t.Fatalf("list %d changed with list %d", j, i)
			}
		}
	}
	if again := lists(c.Order()); !slices.EqualFunc(again, theirs, slices.Equal[[]txn.Step]) {
		t.Fatal("what is told changed")
	}
}

// P13.6, and all others, through many calls.

// times is when transactions began and ended, and which ones wrote, by what the
// calls answered.
type times struct {
	now          int
	began, ended map[int]int
	wrote        map[int]int
}

func newTimes() *times {
	return &times{began: map[int]int{}, ended: map[int]int{}, wrote: map[int]int{}}
}

// note notes what c answered, and that who only reads is not refused at its
// Commit.
func (when *times) note(t *testing.T, c call, n int, e api.Errno) {
	t.Helper()
	when.now++
	switch {
	case c.kind == begins && e == api.OK:
		when.began[n] = when.now
	case c.kind == writesX && e == api.OK:
		when.wrote[c.id]++
	case (c.kind == commits || c.kind == aborts) && e == api.OK:
		when.ended[c.id] = when.now
	case (c.kind == commits || c.kind == readsX) && e == api.ErrLate:
		when.ended[c.id] = when.now
		if c.kind == commits && when.wrote[c.id] == 0 {
			t.Fatalf("%d only read, and was refused at its Commit", c.id)
		}
	}
}

// legal checks P13.6 from what the engine tells alone.
func legal(t *testing.T, c *Engine, when *times, vars int) {
	t.Helper()
	row, now := c.Order(), zeros(vars)
	if len(row) != len(when.began) {
		t.Fatalf("%d began, and there are %d: %v", len(when.began), len(row), ids(row))
	}
	place := map[int]int{}
	wrote := 0
	for i, e := range row {
		if _, twice := place[e.Id]; twice {
			t.Fatalf("%d stands twice: %v", e.Id, ids(row))
		}
		place[e.Id] = i
		for _, r := range e.Reads {
			if now[r.X] != r.V {
				t.Fatalf("%d read %v of %d, which has %v: %v", e.Id, r.V, r.X, now[r.X], row)
			}
		}
		if !e.Committed && len(e.Writes) > 0 || e.Committed && !e.Over {
			t.Fatalf("an entry: %v", e)
		}
		for _, w := range e.Writes {
			now[w.X] = w.V
		}
		if len(e.Writes) > 0 {
			wrote++
		}
		if _, over := when.ended[e.Id]; over != e.Over {
			t.Fatalf("%d: Over is %v", e.Id, e.Over)
		}
	}
	if !slices.Equal(now, c.Values()) || c.Clock() != wrote {
		t.Fatalf("Values: %v, not %v; %d wrote, the clock is %d", c.Values(), now, wrote, c.Clock())
	}
	inTime(t, row, when)
}

// inTime checks that nobody stands ahead of one that was over ahead of its
// Begin: from behind, the least end so far may not be ahead of a Begin.
func inTime(t *testing.T, row []graph.Entry, when *times) {
	t.Helper()
	least := math.MaxInt
	for _, e := range slices.Backward(row) {
		began, is := when.began[e.Id]
		if !is {
			t.Fatalf("%d never began", e.Id)
		}
		if least < began {
			t.Fatalf("%d stands ahead of one that was over ahead of its Begin: %v", e.Id, ids(row))
		}
		if ended, over := when.ended[e.Id]; over {
			least = min(least, ended)
		}
	}
}

// call is one call of an engine: which one, and its arguments.
type call struct {
	kind, id, x int
	v           value.Value
}

const (
	begins = iota
	readsX
	writesX
	commits
	aborts
	saves
	backs
)

// both does what it says in the engine and in the model, and checks that they
// answer alike.
func (do call) both(t *testing.T, c *Engine, m *model) (int, api.Errno) {
	t.Helper()
	var n, wantN int
	var v, wantV value.Value
	var e, wantE api.Errno
	switch do.kind {
	case begins:
		n, e = c.Begin()
		wantN, wantE = m.begin()
	case readsX:
		v, e = c.Read(do.id, do.x)
		wantV, wantE = m.read(do.id, do.x)
	case writesX:
		e = c.Write(do.id, do.x, do.v)
		wantE = m.write(do.id, do.x, do.v)
	case commits:
		e, wantE = c.Commit(do.id), m.commit(do.id)
	case aborts:
		e, wantE = c.Abort(do.id), m.abort(do.id)
	case saves:
		n, e = c.Save(do.id)
		wantN, wantE = m.save(do.id)
	case backs:
		e, wantE = c.Back(do.id, do.x), m.back(do.id, do.x)
	}
	if n != wantN || v != wantV || e != wantE {
		t.Fatalf("%v: %d, %v, %d, not %d, %v, %d", do, n, v, e, wantN, wantV, wantE)
	}
	return n, e
}

// anyId is mostly the number of one that is not over, else one that is, or none.
func anyId(d *dice, m *model) int {
	live := m.live()
	if len(live) == 0 || d.below(12) == 0 {
		return one(d, []int{d.below(len(m.all) + 2), len(m.all) + 1, 0, one(d, far)})
	}
	return one(d, live)
}

// anyCall is a call at what the model says there is, now and then a wrong one.
func anyCall(d *dice, m *model) call {
	mix := []int{begins, begins, readsX, readsX, readsX, readsX, writesX, writesX, writesX, commits, commits, aborts, saves, backs}
	c := call{kind: one(d, mix), id: anyId(d, m), x: d.below(max(len(m.v), 1))}
	if d.below(20) == 0 {
		c.x = one(d, append([]int{len(m.v), len(m.v) + 1}, far...))
	}
	c.v = num(int64(d.below(1000)))
	if d.below(10) == 0 {
		c.v = one(d, rightValues)
	}
	if d.below(30) == 0 {
		c.v = one(d, wrongValues)
	}
	if w, e := m.who(c.id); c.kind == backs && e == api.OK {
		c.x = d.below(len(w.steps)+3) - 1
	}
	return c
}

func TestWalks(t *testing.T) {
	d := dice(13)
	seen := map[[2]int]int{}
	for walk := range 800 {
		many := one(&d, []int{1, 2, 3, 4, 5, 8, 32})
		vars := one(&d, []int{0, 1, 2, 3, 4, 6, 64})
		if walk%3 > 0 {
			many, vars = 3+d.below(6), 2+d.below(6)
		}
		c, m, when := New(many, vars), newModel(many, vars), newTimes()
		for range 150 {
			do := anyCall(&d, m)
			n, e := do.both(t, c, m)
			when.note(t, do, n, e)
			seen[[2]int{do.kind, int(e)}]++
			is(t, c, m.clock, m.order(), m.v)
			legal(t, c, when, vars)
		}
		ended(t, c, m, when, &d)
		legal(t, c, when, vars)
	}
	for _, often := range [][2]int{
		{begins, int(api.OK)}, {begins, int(api.ErrFull)},
		{readsX, int(api.OK)}, {readsX, int(api.ErrArg)}, {readsX, int(api.ErrLate)},
		{commits, int(api.OK)}, {commits, int(api.ErrLate)}, {commits, int(api.ErrOver)}, {commits, int(api.ErrNone)},
		{backs, int(api.OK)}, {backs, int(api.ErrArg)}, {writesX, int(api.ErrArg)}, {aborts, int(api.OK)},
	} {
		if seen[often] < 100 {
			t.Errorf("call %d answered %d only %d times", often[0], often[1], seen[often])
		}
	}
}

// ended ends all that are not over, in any order.
func ended(t *testing.T, c *Engine, m *model, when *times, d *dice) {
	t.Helper()
	for live := m.live(); len(live) > 0; live = m.live() {
		do := call{kind: one(d, []int{commits, aborts}), id: one(d, live)}
		n, e := do.both(t, c, m)
		when.note(t, do, n, e)
	}
	is(t, c, m.clock, m.order(), m.v)
}

// Walks in which transactions have so many steps that they are full.
func TestWalksWithManySteps(t *testing.T) {
	d := dice(11)
	refusals := 0
	for range 20 {
		c, m, when := New(3, 64), newModel(3, 64), newTimes()
		for range 1500 {
			do := anyCall(&d, m)
			if rare := do.kind == commits || do.kind == aborts || do.kind == backs; rare && d.below(150) > 0 {
				do.kind = writesX
			}
			n, e := do.both(t, c, m)
			when.note(t, do, n, e)
			if e == api.ErrFull && do.kind != begins {
				refusals++
			}
		}
		is(t, c, m.clock, m.order(), m.v)
		legal(t, c, when, 64)
		ended(t, c, m, when, &d)
		legal(t, c, when, 64)
	}
	if refusals < 100 {
		t.Errorf("only %d calls were full", refusals)
	}
}

// All rows of so many calls of three transactions at two variables, of which two
// are there at first.
func TestAllShortRows(t *testing.T) {
	calls := []call{{kind: begins}}
	for id := 1; id <= 3; id++ {
		for x := range 2 {
			calls = append(calls, call{readsX, id, x, value.Value{}}, call{writesX, id, x, num(int64(id))})
		}
		calls = append(calls, call{kind: commits, id: id})
	}
	const long = 4
	row := make([]call, long)
	var next func(i int)
	next = func(i int) {
		if i == long {
			oneRow(t, row)
			return
		}
		for _, c := range calls {
			row[i] = c
			next(i + 1)
		}
	}
	next(0)
}

// oneRow begins two transactions, does the calls, and commits all.
func oneRow(t *testing.T, row []call) {
	t.Helper()
	c, m, when := New(3, 2), newModel(3, 2), newTimes()
	do := func(one call) {
		n, e := one.both(t, c, m)
		when.note(t, one, n, e)
	}
	do(call{kind: begins})
	do(call{kind: begins})
	for _, one := range row {
		do(one)
	}
	is(t, c, m.clock, m.order(), m.v)
	legal(t, c, when, 2)
	for _, id := range m.live() {
		do(call{kind: commits, id: id})
	}
	is(t, c, m.clock, m.order(), m.v)
	legal(t, c, when, 2)
}

// The most at a time, and the most variables, for a long time: each transaction
// adds one to a few counters, so that what was committed can be counted. What
// comes of it fits, as layer 10 has it, too.
func TestCounters(t *testing.T) {
	c, when := New(32, 64), newTimes()
	d := dice(64)
	committed, refusals := make([]int64, 64), 0
	var live []int
	for range 20000 {
		if len(live) < 32 && d.below(3) == 0 {
			id, e := c.Begin()
			errno(t, e, api.OK)
			when.note(t, call{kind: begins}, id, e)
			live = append(live, id)
			continue
		}
		if len(live) == 0 {
			continue
		}
		i := d.below(len(live))
		x := one(&d, []int{0, 1, 2, 63, 10 + d.below(50)})
		do := call{kind: readsX, id: live[i], x: x}
		v, e := c.Read(do.id, x)
		if e == api.OK {
			writes(t, c, do.id, x, v.N+1)
			when.note(t, call{kind: writesX, id: do.id}, 0, api.OK)
			if do.kind, e = commits, c.Commit(do.id); e == api.OK {
				committed[x]++
			}
		}
		if e == api.ErrLate {
			refusals++
		}
		when.note(t, do, 0, e)
		live = slices.Delete(live, i, i+1)
	}
	legal(t, c, when, 64)
	if now, first := replay.All(replay.Begin(64), c.Order()); first != -1 || !slices.Equal(now, nums(committed...)) {
		t.Fatalf("what comes of it: %v, %d, not %v", now, first, committed)
	}
	if c.Clock() < 3000 || refusals < 300 {
		t.Fatalf("only %d wrote (%d were refused)", c.Clock(), refusals)
	}
}

// Two runs of the same calls answer alike.
func TestRunsAreAlike(t *testing.T) {
	for seed := range 20 {
		var orders [2][]graph.Entry
		for run := range 2 {
			d := dice(seed)
			c, m := New(6, 3), newModel(6, 3)
			for range 200 {
				anyCall(&d, m).both(t, c, m)
			}
			orders[run] = c.Order()
		}
		if !slices.EqualFunc(orders[0], orders[1], sameEntry) {
			t.Fatalf("seed %d: two runs are unlike", seed)
		}
	}
}
