package replay

import (
	"math"
	"slices"
	"testing"

	"warpbeam/api"
	"warpbeam/graph"
	"warpbeam/txn"
	"warpbeam/value"
)

// far is numbers that are no variables of any row that the tests make, some of
// them such that a cut to fewer bits would take for one.
var far = []int{-1, -2, -63, -64, -1 << 32, 1 - 1<<32, 1 << 32, 1<<32 + 1, 1<<32 + 63, math.MinInt, math.MinInt + 1, math.MaxInt - 1, math.MaxInt}

// anyValues is values, those that are not Right among them, of which many are
// alike in the kind alone, or in the number alone.
var anyValues = []value.Value{
	{Kind: value.Nil}, {Kind: value.Int}, {Kind: value.Ref},
	{Kind: value.Int, N: 1}, {Kind: value.Ref, N: 1}, {Kind: value.Nil, N: 1},
	{Kind: value.Int, N: -1}, {Kind: value.Ref, N: -1},
	{Kind: value.Int, N: 63}, {Kind: value.Ref, N: 63}, {Kind: value.Int, N: 64}, {Kind: value.Ref, N: 64},
	{Kind: value.Int, N: 1 << 32}, {Kind: value.Int, N: 1<<32 + 1},
	{Kind: value.Int, N: math.MaxInt64}, {Kind: value.Int, N: math.MinInt64},
	{Kind: 3}, {Kind: -1}, {Kind: 1<<32 + 1, N: 1}, {Kind: math.MinInt},
}

func num(n int64) value.Value { return value.Value{Kind: value.Int, N: n} }

// nums is variables that have these numbers.
func nums(l ...int64) []value.Value {
	out := []value.Value{}
	for _, n := range l {
		out = append(out, num(n))
	}
	return out
}

func read(x int, n int64) txn.Step { return txn.Step{X: x, V: num(n)} }

func write(x int, n int64) txn.Step { return txn.Step{X: x, V: num(n), Write: true} }

func steps(l ...txn.Step) []txn.Step { return l }

// were is an entry that was committed, and none is one that was not.
func were(reads, writes []txn.Step) graph.Entry {
	return graph.Entry{Id: 1, Committed: true, Over: true, Reads: reads, Writes: writes}
}

func none(reads, writes []txn.Step) graph.Entry {
	return graph.Entry{Id: 1, Over: true, Reads: reads, Writes: writes}
}

// dice is a row of numbers without a pattern, the same ones in every run.
type dice uint64

func (d *dice) below(n int) int {
	*d = *d*6364136223846793005 + 1442695040888963407
	return int(uint64(*d)>>33) % n
}

func one[T any](d *dice, l []T) T { return l[d.below(len(l))] }

// Answers from the chapter's words, one after the other.

func wantDoes(now []value.Value, e graph.Entry) ([]value.Value, bool) {
	for _, r := range e.Reads {
		if !(0 <= r.X && r.X <= len(now)-1) {
			return now, false
		}
		if there := now[r.X]; there.Kind != r.V.Kind || there.N != r.V.N {
			return now, false
		}
	}
	for _, w := range e.Writes {
		if !(0 <= w.X && w.X <= len(now)-1) {
			return now, false
		}
	}
	behind := append([]value.Value{}, now...)
	for i := 0; e.Committed && i < len(e.Writes); i++ {
		behind[e.Writes[i].X] = e.Writes[i].V
	}
	return behind, true
}

func wantAll(now []value.Value, l []graph.Entry) ([]value.Value, int) {
	for place := range l {
		behind, fits := wantDoes(now, l[place])
		if !fits {
			return now, place
		}
		now = behind
	}
	return now, -1
}

func wantCommitted(l []graph.Entry) []graph.Entry {
	out := []graph.Entry{}
	for i := range l {
		if l[i].Committed {
			out = append(out, l[i])
		}
	}
	return out
}

func sameEntry(a, b graph.Entry) bool {
	return a.Id == b.Id && a.Committed == b.Committed && a.Over == b.Over && slices.Equal(a.Reads, b.Reads) && slices.Equal(a.Writes, b.Writes)
}

// whole is all of the memory that a list stands in, what is behind it too.
func whole[T any](l []T) []T { return l[:cap(l)] }

// roomy is l in new memory, that goes on behind it with what fills it.
func roomy[T any](l []T, fill T) []T {
	out := append(make([]T, 0, len(l)+3), l...)
	copy(whole(out)[len(l):], slices.Repeat([]T{fill}, 3))
	return out
}

// spare is an entry that no answer may have.
func spare() graph.Entry {
	return graph.Entry{Id: -7, Committed: true, Reads: steps(read(77, 77)), Writes: steps(write(78, 78))}
}

// roomyEntries is l in new memory, all of its lists roomy.
func roomyEntries(l []graph.Entry) []graph.Entry {
	out := roomy(l, spare())
	for i := range out {
		out[i].Reads = roomy(out[i].Reads, read(77, 77))
		out[i].Writes = roomy(out[i].Writes, write(78, 78))
	}
	return out
}

// memory is all that stands in the memory of some entries.
func memory(l []graph.Entry) []graph.Entry {
	out := slices.Clone(whole(l))
	for i := range out {
		out[i].Reads = slices.Clone(whole(out[i].Reads))
		out[i].Writes = slices.Clone(whole(out[i].Writes))
	}
	return out
}

// unmoved checks that what is done with these leaves them as they are.
func unmoved(t *testing.T, now []value.Value, l []graph.Entry, do func(now []value.Value, l []graph.Entry)) {
	t.Helper()
	now, l = roomy(now, num(99)), roomyEntries(l)
	wasNow, was := slices.Clone(whole(now)), memory(l)
	do(now, l)
	if !slices.Equal(whole(now), wasNow) {
		t.Fatalf("the values that were handed in: %v, not %v", whole(now), wasNow)
	}
	if is := memory(l); !slices.EqualFunc(is, was, sameEntry) {
		t.Fatalf("the entries that were handed in: %v, not %v", is, was)
	}
}

// scribble writes over all of a list's memory.
func scribble[T any](l []T, with T) {
	for i := range whole(l) {
		whole(l)[i] = with
	}
}

func scribbleEntries(l []graph.Entry) {
	for _, e := range whole(l) {
		scribble(e.Reads, read(88, 88))
		scribble(e.Writes, write(89, 89))
	}
	scribble(l, graph.Entry{Id: 90})
}

// does checks what Does answers, and that what was handed in is as it was, also
// when the answer is written over.
func does(t *testing.T, now []value.Value, e graph.Entry, want []value.Value, fits bool) {
	t.Helper()
	unmoved(t, now, []graph.Entry{e}, func(now []value.Value, l []graph.Entry) {
		t.Helper()
		got, did := Does(now, l[0])
		if did != fits || !slices.Equal(got, want) {
			t.Fatalf("Does(%v, %v): %v, %v, not %v, %v", now, l[0], got, did, want, fits)
		}
		scribble(got, num(98))
	})
}

// all checks what All answers, likewise.
func all(t *testing.T, now []value.Value, l []graph.Entry, want []value.Value, place int) {
	t.Helper()
	unmoved(t, now, l, func(now []value.Value, l []graph.Entry) {
		t.Helper()
		got, at := All(now, l)
		if at != place || !slices.Equal(got, want) {
			t.Fatalf("All(%v, %v): %v, %d, not %v, %d", now, l, got, at, want, place)
		}
		scribble(got, num(98))
	})
}

// committed checks what Committed answers, likewise.
func committed(t *testing.T, l, want []graph.Entry) {
	t.Helper()
	unmoved(t, nil, l, func(_ []value.Value, l []graph.Entry) {
		t.Helper()
		got := Committed(l)
		if !slices.EqualFunc(got, want, sameEntry) {
			t.Fatalf("Committed(%v): %v, not %v", l, got, want)
		}
		scribbleEntries(got)
	})
}

// asTold checks all calls against the chapter's words.
func asTold(t *testing.T, now []value.Value, l []graph.Entry) {
	t.Helper()
	for _, e := range l {
		behind, fits := wantDoes(now, e)
		does(t, now, e, behind, fits)
	}
	behind, place := wantAll(now, l)
	all(t, now, l, behind, place)
	committed(t, l, wantCommitted(l))
}

// The chapter's example.

func TestExample(t *testing.T) {
	for _, e := range []graph.Entry{were(steps(read(0, 1)), nil), none(steps(read(0, 1)), nil)} {
		does(t, Begin(1), e, nums(0), false)
	}
	does(t, Begin(1), were(steps(read(0, 0)), nil), nums(0), true)
}

// P10.1.

// begins checks that Begin tells so many.
func begins(t *testing.T, n, many int) {
	t.Helper()
	for range 2 {
		got := Begin(n)
		if len(got) != many {
			t.Fatalf("Begin(%d): %d values, not %d", n, len(got), many)
		}
		for x, v := range got {
			if v.Kind != value.Int || v.N != 0 {
				t.Fatalf("Begin(%d): variable %d has %v", n, x, v)
			}
		}
		scribble(got, num(97))
	}
}

func TestBegin(t *testing.T) {
	for n := 0; n <= 64; n++ {
		begins(t, n, n)
	}
	for _, n := range []int{-1, -2, -64, -65, -1 << 32, 1 - 1<<32, math.MinInt, math.MinInt + 1} {
		begins(t, n, 0)
	}
	for _, n := range []int{65, 66, 100, 127, 128, 256, 257, 1 << 16, 1 << 32, 1<<32 + 1, math.MaxInt - 1, math.MaxInt} {
		begins(t, n, 64)
	}
}

// P10.2.

func TestDoesWithoutSteps(t *testing.T) {
	for _, n := range []int{0, 1, 2, 3, 63, 64, 65, 100} {
		var now []value.Value
		for x := range n {
			now = append(now, anyValues[x%len(anyValues)])
		}
		for _, l := range [][]txn.Step{nil, {}, make([]txn.Step, 0, 3)} {
			does(t, now, were(l, l), now, true)
			does(t, now, none(l, l), now, true)
		}
		does(t, now, graph.Entry{}, now, true)
	}
}

func TestDoesWithoutValues(t *testing.T) {
	for _, x := range append([]int{0, 1, 63}, far...) {
		for _, now := range [][]value.Value{nil, {}} {
			does(t, now, were(steps(read(x, 0)), nil), nil, false)
			does(t, now, none(steps(read(x, 0)), nil), nil, false)
			does(t, now, were(nil, steps(write(x, 0))), nil, false)
			does(t, now, none(nil, steps(write(x, 0))), nil, false)
		}
	}
}

func TestDoesRead(t *testing.T) {
	for _, has := range anyValues {
		for _, v := range anyValues {
			for _, n := range []int{1, 2, 5, 64} {
				for _, x := range []int{0, n / 2, n - 1} {
					now := slices.Repeat([]value.Value{num(7)}, n)
					now[x] = has
					e := none(steps(txn.Step{X: x, V: v}), nil)
					does(t, now, e, now, has == v)
					e.Committed = true
					does(t, now, e, now, has == v)
				}
			}
		}
	}
}

func TestDoesWrite(t *testing.T) {
	for _, v := range anyValues {
		for _, n := range []int{1, 2, 5, 64, 70} {
			for _, x := range []int{0, n / 2, n - 1} {
				now := slices.Repeat([]value.Value{num(7)}, n)
				e := none(nil, steps(txn.Step{X: x, V: v, Write: true}))
				does(t, now, e, now, true)
				e.Committed = true
				behind := slices.Clone(now)
				behind[x] = v
				does(t, now, e, behind, true)
			}
		}
	}
}

// A step of what is no variable, at all places of a row that fits: none of the
// other steps is done.
func TestDoesOfNoVariable(t *testing.T) {
	for _, n := range []int{1, 2, 3, 4, 63, 64, 65} {
		now := slices.Repeat([]value.Value{num(7)}, n)
		last := n - 1
		reads := steps(read(0, 7), read(last, 7))
		writes := steps(write(0, 1), write(last, 2))
		for _, x := range append([]int{n, n + 1, n + 64, 2*n + 1, 256 + last}, far...) {
			for at := range 3 {
				for _, entry := range []func(r, w []txn.Step) graph.Entry{were, none} {
					does(t, now, entry(slices.Insert(slices.Clone(reads), at, read(x, 7)), writes), now, false)
					does(t, now, entry(slices.Insert(slices.Clone(reads), at, read(x, 0)), nil), now, false)
					does(t, now, entry(reads, slices.Insert(slices.Clone(writes), at, write(x, 7))), now, false)
					does(t, now, entry(nil, slices.Insert(slices.Clone(writes), at, write(x, 0))), now, false)
				}
			}
		}
	}
}

// A read that is another one, at all places of a row that fits.
func TestDoesReadsOfOthers(t *testing.T) {
	now := nums(5, 6, 7)
	reads := steps(read(0, 5), read(1, 6), read(2, 7))
	writes := steps(write(0, 1), write(2, 3))
	others := []value.Value{num(0), num(4), num(-5), num(8), {Kind: value.Nil}, {Kind: value.Ref, N: 5}, {Kind: value.Ref, N: 6}, {Kind: value.Ref, N: 7}}
	for _, entry := range []func(r, w []txn.Step) graph.Entry{were, none} {
		for x := range reads {
			for _, v := range others {
				wrong := slices.Clone(reads)
				wrong[x].V = v
				does(t, now, entry(wrong, writes), now, false)
				does(t, now, entry(wrong, nil), now, false)
			}
		}
	}
	does(t, now, were(reads, writes), nums(1, 6, 3), true)
	does(t, now, none(reads, writes), now, true)
}

// Steps need not be of rising variables, nor each variable come once.
func TestDoesInOrder(t *testing.T) {
	now := nums(5, 6, 7)
	does(t, now, were(nil, steps(write(2, 1), write(0, 2))), nums(2, 6, 1), true)
	does(t, now, were(nil, steps(write(1, 1), write(1, 2))), nums(5, 2, 7), true)
	does(t, now, were(nil, steps(write(1, 2), write(1, 1))), nums(5, 1, 7), true)
	does(t, now, were(nil, steps(write(1, 1), write(0, 9), write(1, 6))), nums(9, 6, 7), true)
	does(t, now, were(nil, steps(write(1, 3), write(2, 4), write(1, 4), write(2, 3))), nums(5, 4, 3), true)
	does(t, now, were(steps(read(2, 7), read(0, 5), read(2, 7)), nil), now, true)
	does(t, now, were(steps(read(2, 7), read(0, 5), read(2, 5)), nil), now, false)
	does(t, now, were(steps(read(2, 5), read(0, 5), read(2, 7)), nil), now, false)
}

// Reads are of what there is ahead of the entry, not of what itself leaves.
func TestDoesReadsAheadOfItsWrites(t *testing.T) {
	now := nums(5, 6)
	for _, entry := range []func(r, w []txn.Step) graph.Entry{were, none} {
		does(t, now, entry(steps(read(0, 9)), steps(write(0, 9))), now, false)
		does(t, now, entry(steps(read(1, 5)), steps(write(1, 5), write(0, 6))), now, false)
	}
	does(t, now, were(steps(read(0, 5)), steps(write(0, 9))), nums(9, 6), true)
	does(t, now, were(steps(read(0, 5), read(1, 6)), steps(write(0, 6), write(1, 5))), nums(6, 5), true)
}

// Where a step stands tells what it is, not what it says of itself; nor do the
// Id, and whether it is over, count.
func TestDoesGoesByNothingElse(t *testing.T) {
	now := nums(5, 6)
	does(t, now, were(steps(write(0, 5)), steps(read(1, 9))), nums(5, 9), true)
	does(t, now, were(steps(write(0, 4)), steps(read(1, 9))), now, false)
	does(t, now, none(steps(write(0, 5)), steps(read(1, 9))), now, true)
	for _, id := range append([]int{0, 1, 2, 33}, far...) {
		for _, over := range []bool{true, false} {
			e := graph.Entry{Id: id, Over: over, Reads: steps(read(0, 5)), Writes: steps(write(1, 9))}
			does(t, now, e, now, true)
			e.Committed = true
			does(t, now, e, nums(5, 9), true)
			e.Reads[0].V.N++
			does(t, now, e, now, false)
		}
	}
}

// P10.3.

// adds is an entry that finds n at x, and leaves one more.
func adds(x int, n int64) graph.Entry {
	return were(steps(read(x, n)), steps(write(x, n+1)))
}

func TestAll(t *testing.T) {
	row := []graph.Entry{
		adds(0, 0),
		none(steps(read(0, 1), read(2, 0)), steps(write(1, 8))),
		were(steps(read(1, 0)), steps(write(1, 5), write(2, 6))),
		were(steps(read(0, 1), read(1, 5), read(2, 6)), nil),
		adds(0, 1),
	}
	behind := [][]value.Value{nums(0, 0, 0), nums(1, 0, 0), nums(1, 0, 0), nums(1, 5, 6), nums(1, 5, 6), nums(2, 5, 6)}
	for i := range behind {
		all(t, Begin(3), row[:i], behind[i], -1)
		all(t, behind[i], row[i:], behind[5], -1)
	}
	all(t, Begin(2), row, nums(1, 0), 1)
	all(t, Begin(1), row, nums(1), 1)
	all(t, Begin(0), row, nil, 0)
}

func TestAllOfNothing(t *testing.T) {
	for _, l := range [][]graph.Entry{nil, {}} {
		all(t, nil, l, nil, -1)
		all(t, []value.Value{}, l, nil, -1)
		all(t, nums(3), l, nums(3), -1)
		all(t, anyValues, l, anyValues, -1)
	}
	for _, n := range []int{1, 2, 40} {
		all(t, nil, make([]graph.Entry, n), nil, -1)
		all(t, nums(3, 4), make([]graph.Entry, n), nums(3, 4), -1)
	}
}

// wrongs is entries that do not fit where variable 0, of n variables, has has.
func wrongs(n int, has int64) []graph.Entry {
	left := steps(write(0, 77), write(n-1, 78))
	var l []graph.Entry
	for _, entry := range []func(r, w []txn.Step) graph.Entry{were, none} {
		l = append(l,
			entry(steps(read(0, has+1)), left), entry(steps(read(0, has-1)), nil),
			entry(steps(read(0, has), txn.Step{X: 0, V: value.Value{Kind: value.Ref, N: has}}), left),
			entry(steps(read(0, has), read(n, 0)), left), entry(steps(read(-1, 0)), left),
			entry(steps(read(0, has)), append(slices.Clone(left), write(n, 79))), entry(nil, append(slices.Clone(left), write(-1, 79))),
		)
	}
	return l
}

// What does not fit, at all places of a row that fits: the first one, the last
// one, and those between; alone, and ahead of one more of these.
func TestAllUpToWhatDoesNotFit(t *testing.T) {
	const long = 6
	for _, n := range []int{1, 2, 64} {
		var row []graph.Entry
		for i := range long {
			row = append(row, adds(0, int64(i)))
		}
		for place := range long + 1 {
			behind := Begin(n)
			behind[0] = num(int64(place))
			for _, e := range wrongs(n, int64(place)) {
				one := slices.Insert(slices.Clone(row), place, e)
				all(t, Begin(n), one, behind, place)
				all(t, Begin(n), append(slices.Clone(one), e), behind, place)
				all(t, Begin(n), slices.Insert(slices.Clone(one), place, e), behind, place)
				all(t, Begin(n), one[:place+1], behind, place)
				all(t, Begin(n), one[:place], behind, -1)
			}
		}
		behind := Begin(n)
		behind[0] = num(long)
		all(t, Begin(n), row, behind, -1)
	}
}

// P10.4.

func TestCommitted(t *testing.T) {
	committed(t, nil, nil)
	committed(t, []graph.Entry{}, nil)
	for many := range 8 {
		for mask := range 1 << many {
			var l, want []graph.Entry
			for i := range many {
				e := graph.Entry{Id: (i * 3) % 7, Committed: mask>>i&1 == 1, Over: i%2 == 0, Reads: steps(read(i, int64(i))), Writes: steps(write(i, 1), write(0, 2))}
				l = append(l, e)
				if e.Committed {
					want = append(want, e)
				}
			}
			committed(t, l, want)
		}
	}
}

// All of an entry stays, what does not fit anything too.
func TestCommittedKeepsAll(t *testing.T) {
	odd := []graph.Entry{
		{Committed: true},
		{Id: 5, Committed: true, Over: true},
		{Id: -5, Committed: true, Reads: steps(read(-1, 1), write(99, 2)), Writes: steps(read(64, 3), write(math.MinInt, 4))},
		{Id: math.MaxInt, Committed: true, Reads: steps(txn.Step{V: value.Value{Kind: 9, N: 9}})},
		{Id: 5, Committed: true, Writes: steps(write(0, 1), write(0, 1))},
	}
	committed(t, odd, odd)
	committed(t, slices.Concat(odd, odd), slices.Concat(odd, odd))
	committed(t, []graph.Entry{{Id: 1, Over: true, Writes: steps(write(0, 1))}, odd[1], {Id: 2}}, odd[1:2])
}

// No two lists of one answer share memory: of those that are one list in what
// is handed in, each can be written over alone.
func TestCommittedListsAreApart(t *testing.T) {
	shared := roomy(steps(read(0, 1), read(1, 2)), read(2, 3))
	row := []graph.Entry{were(shared, shared), none(shared, shared), were(shared[:1], shared[1:])}
	for _, i := range []int{0, 1} {
		for _, reads := range []bool{true, false} {
			got := Committed(row)
			want := wantCommitted(row)
			if reads {
				want[i].Reads = nil
				scribble(got[i].Reads, read(88, 88))
				got[i].Reads = nil
			} else {
				want[i].Writes = nil
				scribble(got[i].Writes, read(88, 88))
				got[i].Writes = nil
			}
			if !slices.EqualFunc(got, want, sameEntry) {
				t.Errorf("list %d is written over: %v, not %v", i, got, want)
			}
		}
	}
}

// P10.5.

// anyEntry is an entry at what now has, wrong now and then.
func anyEntry(d *dice, now []value.Value, often int) graph.Entry {
	e := graph.Entry{Id: d.below(9), Committed: d.below(3) > 0, Over: d.below(2) == 0}
	wrong := func() bool { return d.below(often) == 0 }
	pick := func() int {
		if len(now) == 0 || wrong() {
			return one(d, append([]int{len(now), len(now) + 1}, far...))
		}
		return d.below(len(now))
	}
	for range d.below(4) {
		r := txn.Step{X: pick(), Write: d.below(9) == 0}
		if r.X >= 0 && r.X < len(now) {
			r.V = now[r.X]
		}
		if wrong() {
			r.V = one(d, anyValues)
		}
		e.Reads = append(e.Reads, r)
	}
	for range d.below(4) {
		e.Writes = append(e.Writes, txn.Step{X: pick(), V: one(d, anyValues), Write: d.below(9) > 0})
	}
	if len(now) == 0 && d.below(2) == 0 {
		e.Reads, e.Writes = nil, nil
	}
	return e
}

// anyRow is entries of which most fit behind each other.
func anyRow(d *dice, now []value.Value, many, often int) []graph.Entry {
	var l []graph.Entry
	for range many {
		e := anyEntry(d, now, often)
		now, _ = wantDoes(now, e)
		l = append(l, e)
	}
	return l
}

func anyNow(d *dice, n int) []value.Value {
	var now []value.Value
	for range n {
		now = append(now, one(d, anyValues))
	}
	return now
}

// inParts is what comes of l in two parts, cut at that place.
func inParts(now []value.Value, l []graph.Entry, cut int) ([]value.Value, int) {
	now, place := All(now, l[:cut])
	if place != -1 {
		return now, place
	}
	now, place = All(now, l[cut:])
	if place != -1 {
		place += cut
	}
	return now, place
}

// oneByOne is what comes of l by Does.
func oneByOne(now []value.Value, l []graph.Entry) ([]value.Value, int) {
	for place, e := range l {
		behind, fits := Does(now, e)
		now = behind
		if !fits {
			return now, place
		}
	}
	return now, -1
}

// parts checks that what comes of l is what comes of its parts: of any two, of
// many, and of each of them alone.
func parts(t *testing.T, d *dice, now []value.Value, l []graph.Entry) {
	t.Helper()
	want, place := All(now, l)
	check := func(what string, cut int, got []value.Value, at int) {
		t.Helper()
		if at != place || !slices.Equal(got, want) {
			t.Fatalf("%s, %d: of %v, behind %v: %v, %d, not %v, %d", what, cut, l, now, got, at, want, place)
		}
	}
	for cut := 0; cut <= len(l); cut++ {
		got, at := inParts(now, l, cut)
		check("two parts", cut, got, at)
	}
	got, at := oneByOne(now, l)
	check("one by one", 0, got, at)
	got, from := now, 0
	for at = -1; at == -1 && from < len(l); {
		to := from + d.below(len(l)-from+1)
		if got, at = All(got, l[from:to]); at != -1 {
			at += from
		}
		from = to
	}
	check("many parts", 0, slices.Clone(got), at)
}

// idle checks that l without those that were not committed is as it was: if l
// fits, that does, and has the same end.
func idle(t *testing.T, now []value.Value, l []graph.Entry) {
	t.Helper()
	for _, e := range l {
		if behind, _ := Does(now, e); !e.Committed && !slices.Equal(behind, now) {
			t.Fatalf("%v was not committed, and changes %v to %v", e, now, behind)
		}
	}
	want, place := All(now, l)
	if place == -1 {
		all(t, now, Committed(l), want, -1)
		all(t, now, wantCommitted(l), want, -1)
	}
}

func TestRows(t *testing.T) {
	d := dice(10)
	fit, unfit, cutShort := 0, 0, 0
	for range 4000 {
		now := anyNow(&d, one(&d, []int{0, 1, 2, 3, 5, 8, 63, 64, 65}))
		l := anyRow(&d, now, d.below(12), one(&d, []int{2, 20, 100, 1000}))
		asTold(t, now, l)
		parts(t, &d, now, l)
		idle(t, now, l)
		switch _, place := All(now, l); {
		case place == -1 && len(l) > 0:
			fit++
		case place > 0:
			cutShort++
		case place == 0:
			unfit++
		}
	}
	if fit < 500 || unfit < 300 || cutShort < 500 {
		t.Errorf("%d rows fit, %d did not, %d not from some place on", fit, unfit, cutShort)
	}
}

func TestLongRows(t *testing.T) {
	d := dice(3)
	for range 20 {
		now := anyNow(&d, 64)
		l := anyRow(&d, now, 300, 100000)
		asTold(t, now, l)
		parts(t, &d, now, l)
		idle(t, now, l)
	}
}

// All rows of three out of some small entries, at two variables.
func TestAllShortRows(t *testing.T) {
	reads := [][]txn.Step{nil, {read(0, 0)}, {read(0, 1)}, {read(1, 0)}}
	writes := [][]txn.Step{nil, {write(0, 1)}, {write(1, 1)}, {write(0, 1), write(2, 1)}}
	var entries []graph.Entry
	for _, r := range reads {
		for _, w := range writes {
			entries = append(entries, were(r, w), none(r, w))
		}
	}
	now := Begin(2)
	for _, a := range entries {
		for _, b := range entries {
			for _, c := range entries {
				l := []graph.Entry{a, b, c}
				want, place := wantAll(now, l)
				if got, at := All(now, l); at != place || !slices.Equal(got, want) {
					t.Fatalf("All(%v): %v, %d, not %v, %d", l, got, at, want, place)
				}
				if got, at := oneByOne(now, l); at != place || !slices.Equal(got, want) {
					t.Fatalf("Does of %v: %v, %d, not %v, %d", l, got, at, want, place)
				}
			}
		}
	}
	if !slices.Equal(now, nums(0, 0)) {
		t.Errorf("what was handed in: %v", now)
	}
}

// The log and the rest of an engine of layer 9.

// walk is an engine, and the Ids of all that may be live.
type walk struct {
	g    *graph.Engine
	vars int
	ids  []int
	done map[api.Errno]int
}

// anyCall does one call, at what there is, or, now and then, a wrong one.
func (w *walk) anyCall(d *dice) {
	kind := d.below(14)
	if kind < 2 || len(w.ids) == 0 {
		id, e := w.g.Begin()
		if e == api.OK {
			w.ids = append(w.ids, id)
		}
		return
	}
	id, x := one(d, w.ids), d.below(max(w.vars, 1))
	if d.below(30) == 0 {
		id, x = one(d, append([]int{1, 2, 3}, far...)), one(d, far)
	}
	switch {
	case kind < 6:
		_, e := w.g.Read(id, x)
		w.note(id, e, e == api.ErrCycle || e == api.ErrOver)
	case kind < 9:
		w.g.Write(id, x, one(d, anyValues))
	case kind < 11:
		e := w.g.Commit(id)
		w.note(id, e, true)
	case kind < 12:
		e := w.g.Abort(id)
		w.note(id, e, true)
	default:
		if to, e := w.g.Save(id); e == api.OK && to > 0 {
			w.g.Back(id, d.below(to))
		}
	}
}

// note counts an answer, and takes an Id out that may be over.
func (w *walk) note(id int, e api.Errno, over bool) {
	w.done[e]++
	if over {
		w.ids = slices.DeleteFunc(w.ids, func(a int) bool { return a == id })
	}
}

// fits checks that the log, and then the rest, fit, and leave the values. It is
// the row of these.
func (w *walk) fits(t *testing.T, d *dice) []graph.Entry {
	t.Helper()
	log, rest, want := w.g.Log(), w.g.Rest(), w.g.Values()
	row := slices.Concat(log, rest)
	now := Begin(w.vars)
	all(t, now, row, want, -1)
	all(t, now, Committed(row), want, -1)
	behind, place := All(now, log)
	if place != -1 {
		t.Fatalf("the log does not fit at %d: %v", place, log)
	}
	all(t, behind, rest, want, -1)
	if got, at := oneByOne(now, row); at != -1 || !slices.Equal(got, want) {
		t.Fatalf("one by one: %v, %d, not %v: %v", got, at, want, row)
	}
	parts(t, d, now, row)
	return row
}

// falsified checks that a row that fits does not, from an entry on of which one
// read is another.
func falsified(t *testing.T, d *dice, vars int, row []graph.Entry) {
	t.Helper()
	place := d.below(len(row))
	if len(row[place].Reads) == 0 {
		return
	}
	ahead, _ := wantAll(Begin(vars), row[:place])
	wrong := slices.Clone(row)
	wrong[place].Reads = slices.Clone(wrong[place].Reads)
	wrong[place].Reads[d.below(len(wrong[place].Reads))].V.N++
	all(t, Begin(vars), wrong, ahead, place)
}

// byIds tells whether a row fits, if those that began first stand first.
func byIds(vars int, row []graph.Entry) bool {
	began := slices.Clone(row)
	slices.SortFunc(began, func(a, b graph.Entry) int { return a.Id - b.Id })
	_, place := All(Begin(vars), began)
	return place == -1
}

func TestEngines(t *testing.T) {
	d := dice(12)
	done := map[api.Errno]int{}
	reads, ahead := 0, 0
	for i := range 500 {
		slots, vars := one(&d, []int{1, 2, 3, 5, 32}), one(&d, []int{0, 1, 2, 6, 63, 64})
		if i%3 > 0 {
			slots, vars = 3+d.below(6), 2+d.below(5)
		}
		w := &walk{g: graph.New(slots, vars), vars: vars, done: done}
		for n := range 120 {
			w.anyCall(&d)
			if n%10 == 0 || n < 20 {
				w.fits(t, &d)
			}
		}
		row := w.fits(t, &d)
		if len(row) > 0 {
			falsified(t, &d, vars, row)
		}
		if !byIds(vars, row) {
			ahead++
		}
		for len(w.ids) > 0 {
			id := one(&d, w.ids)
			w.note(id, w.g.Commit(id), true)
		}
		for _, e := range w.fits(t, &d) {
			reads += len(e.Reads)
		}
	}
	if reads < 2000 || ahead < 50 || done[api.OK] < 2000 || done[api.ErrCycle] < 100 {
		t.Errorf("%d reads, %d rows that do not fit by Ids, and these answers: %v", reads, ahead, done)
	}
}

// script is what one transaction does, call by call, by its Id once it began.
type script []func(g *graph.Engine, id int)

func reads(x int) func(*graph.Engine, int) {
	return func(g *graph.Engine, id int) { g.Read(id, x) }
}

func writes(x int, n int64) func(*graph.Engine, int) {
	return func(g *graph.Engine, id int) { g.Write(id, x, num(n)) }
}

func commits(g *graph.Engine, id int) { g.Commit(id) }

func aborts(g *graph.Engine, id int) { g.Abort(id) }

// orders tells all rows in which each of several numbers comes so many times.
func orders(left []int, row []int, tell func(row []int)) {
	ended := true
	for i := range left {
		if left[i] > 0 {
			ended = false
			left[i]--
			orders(left, append(row, i), tell)
			left[i]++
		}
	}
	if ended {
		tell(row)
	}
}

// inOrder does the scripts' calls in that order, each Begin as the first one of
// its script, and checks that log and rest fit behind the later half of them.
func inOrder(t *testing.T, scripts []script, row []int) {
	t.Helper()
	g := graph.New(3, 2)
	ids, next := make([]int, len(scripts)), make([]int, len(scripts))
	for n, i := range row {
		if next[i] == 0 {
			ids[i], _ = g.Begin()
		} else {
			scripts[i][next[i]-1](g, ids[i])
		}
		next[i]++
		if n < len(row)/2 {
			continue
		}
		l := slices.Concat(g.Log(), g.Rest())
		if got, place := All(Begin(2), l); place != -1 || !slices.Equal(got, g.Values()) {
			t.Fatalf("order %v, behind %d calls: All(%v): %v, %d, not %v", row, n+1, l, got, place, g.Values())
		}
	}
}

// The calls of three transactions at two variables in all orders.
func TestEnginesInAllOrders(t *testing.T) {
	for _, third := range []script{
		{writes(0, 3), writes(1, 4), commits},
		{reads(0), reads(1), commits},
		{reads(1), writes(1, 6), aborts},
	} {
		scripts := []script{{reads(0), writes(1, 1), commits}, {reads(1), writes(0, 2), commits}, third}
		many := 0
		orders([]int{4, 4, 4}, nil, func(row []int) {
			many++
			inOrder(t, scripts, row)
		})
		if many != 34650 {
			t.Errorf("%d orders", many)
		}
	}
}

// An engine's transaction that stands ahead of one that was committed before it.
func TestEngineAhead(t *testing.T) {
	g := graph.New(2, 1)
	a, _ := g.Begin()
	b, _ := g.Begin()
	g.Read(a, 0)
	g.Write(b, 0, num(5))
	if e := g.Commit(b); e != api.OK {
		t.Fatalf("Commit: %d", e)
	}
	rest := g.Rest()
	all(t, Begin(1), rest, nums(5), -1)
	all(t, Begin(1), []graph.Entry{rest[1], rest[0]}, nums(5), 1)
	all(t, nums(5), rest, nums(5), 0)
	g.Commit(a)
	all(t, Begin(1), g.Log(), g.Values(), -1)
}

// R4: what was asked before does not count.
func TestRunsAreAlike(t *testing.T) {
	run := func() ([]value.Value, []int) {
		d := dice(4)
		var ends []value.Value
		var places []int
		for range 200 {
			now := anyNow(&d, 4)
			end, place := All(now, anyRow(&d, now, 8, 30))
			ends, places = append(ends, end...), append(places, place)
		}
		return ends, places
	}
	ends, places := run()
	again, placesAgain := run()
	if !slices.Equal(ends, again) || !slices.Equal(places, placesAgain) {
		t.Error("two runs are not alike")
	}
}
