package txn

import (
	"math"
	"slices"
	"testing"

	"warpbeam/api"
	"warpbeam/value"
)

// noVars is what is no variable, some of it such that a cut to fewer bits would
// take for one.
var noVars = []int{
	-1, -2, -63, -64, -65, 64, 65, 66, 127, 128, 200, 256, 320, 1000,
	-1 << 32, 1 - 1<<32, 1 << 32, 1<<32 + 1, 1<<32 + 63, math.MinInt, math.MinInt + 1, math.MaxInt - 1, math.MaxInt,
}

var rightValues = []value.Value{
	{Kind: value.Nil},
	{Kind: value.Int}, {Kind: value.Int, N: 1}, {Kind: value.Int, N: -1}, {Kind: value.Int, N: 64},
	{Kind: value.Int, N: math.MaxInt64}, {Kind: value.Int, N: math.MinInt64},
	{Kind: value.Ref}, {Kind: value.Ref, N: 3}, {Kind: value.Ref, N: 62}, {Kind: value.Ref, N: 63},
}

var wrongValues = []value.Value{
	{Kind: value.Nil, N: 1}, {Kind: value.Nil, N: -1}, {Kind: value.Nil, N: math.MinInt64},
	{Kind: value.Ref, N: -1}, {Kind: value.Ref, N: 64}, {Kind: value.Ref, N: 1 << 32}, {Kind: value.Ref, N: math.MaxInt64}, {Kind: value.Ref, N: math.MinInt64},
	{Kind: -1}, {Kind: 3}, {Kind: 9, N: 7}, {Kind: 256}, {Kind: 1<<32 + 1}, {Kind: math.MaxInt}, {Kind: math.MinInt},
}

var anyValues = slices.Concat(rightValues, wrongValues)

func num(n int64) value.Value { return value.Value{Kind: value.Int, N: n} }

func read(x int, n int64) Step { return Step{x, num(n), false} }

func write(x int, n int64) Step { return Step{x, num(n), true} }

// dice is a row of numbers without a pattern, the same ones in every run.
type dice uint64

func (d *dice) next() uint64 {
	*d = *d*6364136223846793005 + 1442695040888963407
	return uint64(*d) >> 33
}

func (d *dice) below(n int) int { return int(d.next() % uint64(n)) }

func one[T any](d *dice, l []T) T { return l[d.below(len(l))] }

// anyVar is a variable, one of the few that come again and again, or, now and
// then, what is none.
func (d *dice) anyVar() int {
	return one(d, []int{0, 1, 2, 3, 62, 63, d.below(64), d.below(64), one(d, noVars)})
}

// wild is a transaction of n steps that no call made.
func wild(d *dice, n int) Txn {
	t := make(Txn, n)
	for i := range t {
		t[i] = Step{d.anyVar(), one(d, anyValues), d.below(2) == 0}
	}
	return t
}

// made is a transaction of n steps, 200 at most, of some variables, by calls.
func made(t *testing.T, d *dice, n, vars int) Txn {
	t.Helper()
	var x Txn
	for i := range n {
		call := one(d, []func(Txn, int, value.Value) (Txn, api.Errno){Read, Write})
		next, e := call(x, d.below(vars), num(int64(i)))
		if e != api.OK {
			t.Fatalf("step %d of %d: %d", i, n, e)
		}
		x = next
	}
	return x
}

// samples is transactions of many kinds: without steps, with one, with nearly
// as many as there may be, and as many, and some that no call made (more steps
// than there may be, too).
func samples(t *testing.T) []Txn {
	t.Helper()
	d := dice(8)
	l := []Txn{
		nil, {}, make(Txn, 0, 4), make(Txn, 1), make(Txn, 3),
		{read(0, 1)}, {write(0, 1)}, {read(63, 1)}, {write(63, 1)},
		{read(5, 1), write(5, 2), read(5, 3)}, {write(5, 1), read(5, 2), write(5, 3)},
		{write(9, 1), write(9, 2), write(9, 3)}, {read(9, 1), read(9, 2), read(9, 3)},
	}
	for _, n := range []int{1, 2, 3, 10, 64, 198, 199, 200} {
		for _, vars := range []int{1, 4, 64} {
			l = append(l, made(t, &d, n, vars))
		}
	}
	for _, n := range []int{1, 2, 5, 50, 199, 200, 201, 202, 256, 400, 456} {
		l = append(l, wild(&d, n))
	}
	return l
}

// Answers from the chapter's words alone, one word after another.

func wantAdd(t Txn, s Step) (Txn, api.Errno) {
	if !(0 <= s.X && s.X <= 63) {
		return t, api.ErrArg
	}
	if !value.Right(s.V) {
		return t, api.ErrArg
	}
	if !(len(t) < 200) {
		return t, api.ErrFull
	}
	return append(append(Txn{}, t...), s), api.OK
}

func wantLook(t Txn, x int) (value.Value, bool) {
	var steps, writes []Step
	for _, s := range t {
		if s.X == x {
			steps = append(steps, s)
		}
		if s.X == x && s.Write {
			writes = append(writes, s)
		}
	}
	if len(writes) > 0 {
		return writes[len(writes)-1].V, true
	}
	if len(steps) > 0 {
		return steps[0].V, true
	}
	return value.Value{}, false
}

func wantReads(t Txn) []Step {
	var l []Step
	for x := 0; x <= 63; x++ {
		for i := 0; i < len(t); i++ {
			if t[i].X == x && !t[i].Write {
				l = append(l, t[i])
				break
			}
		}
	}
	return l
}

func wantWrites(t Txn) []Step {
	var l []Step
	for x := 0; x <= 63; x++ {
		for i := len(t) - 1; i >= 0; i-- {
			if t[i].X == x && t[i].Write {
				l = append(l, t[i])
				break
			}
		}
	}
	return l
}

func wantBack(t Txn, to int) (Txn, api.Errno) {
	if to < 0 || to > len(t) {
		return t, api.ErrArg
	}
	var l Txn
	for i, s := range t {
		if i < to || !s.Write {
			l = append(l, s)
		}
	}
	return l, api.OK
}

// within is a copy of x that lies among other steps, and all of these.
func within(x Txn) (handed, whole Txn) {
	whole = make(Txn, len(x)+4)
	for i := range whole {
		whole[i] = Step{7, num(int64(7000 + i)), i%2 == 0}
	}
	handed = whole[2 : 2+len(x)]
	copy(handed, x)
	return handed, whole
}

// hold calls with x among other steps, and checks that neither x nor what lies
// beside it is changed; that the answer is want and e; and that x and the answer
// share no memory.
func hold[L ~[]Step](t *testing.T, x Txn, call func(Txn) (L, api.Errno), want L, e api.Errno) {
	t.Helper()
	handed, whole := within(x)
	was := slices.Clone(whole)
	got, gotE := call(handed)
	if gotE != e || !slices.Equal(got, want) {
		t.Fatalf("of %v: %v, %d, not %v, %d", x, got, gotE, want, e)
	}
	if !slices.Equal(whole, was) {
		t.Fatalf("what was handed in is now %v, not %v", whole, was)
	}
	answer := slices.Clone(got)
	for i := range whole {
		whole[i] = Step{-9, num(-9), !whole[i].Write}
	}
	if !slices.Equal(got, answer) {
		t.Fatalf("the answer of %v is changed with what was handed in", x)
	}
	copy(whole, was)
	for i := range got[:cap(got)] {
		got[:cap(got)][i] = Step{-8, num(-8), true}
	}
	if !slices.Equal(whole, was) {
		t.Fatalf("%v is changed with the answer", x)
	}
}

func holdAdd(t *testing.T, x Txn, s Step) {
	t.Helper()
	want, e := wantAdd(x, s)
	call := Read
	if s.Write {
		call = Write
	}
	hold(t, x, func(x Txn) (Txn, api.Errno) { return call(x, s.X, s.V) }, want, e)
}

func holdBack(t *testing.T, x Txn, to int) {
	t.Helper()
	want, e := wantBack(x, to)
	hold(t, x, func(x Txn) (Txn, api.Errno) { return Back(x, to) }, want, e)
}

// holdAsked checks all calls that only tell something of x.
func holdAsked(t *testing.T, x Txn) {
	t.Helper()
	handed, whole := within(x)
	was := slices.Clone(whole)
	if n := Save(handed); n != len(x) {
		t.Fatalf("Save of %v: %d", x, n)
	}
	for v := -2; v <= 66; v++ {
		holdLook(t, handed, v)
	}
	for _, v := range noVars {
		holdLook(t, handed, v)
	}
	if !slices.Equal(whole, was) {
		t.Fatalf("what was handed in is now %v, not %v", whole, was)
	}
	hold(t, x, func(x Txn) ([]Step, api.Errno) { return Reads(x), api.OK }, wantReads(x), api.OK)
	hold(t, x, func(x Txn) ([]Step, api.Errno) { return Writes(x), api.OK }, wantWrites(x), api.OK)
}

func holdLook(t *testing.T, x Txn, v int) {
	t.Helper()
	want, is := wantLook(x, v)
	if got, known := Look(x, v); got != want || known != is {
		t.Fatalf("Look of %d of %v: %v, %v, not %v, %v", v, x, got, known, want, is)
	}
}

// P8.1

func TestReadAndWrite(t *testing.T) {
	x, e := Read(nil, 3, num(1))
	if e != api.OK || !slices.Equal(x, Txn{{3, num(1), false}}) {
		t.Fatalf("Read: %v, %d", x, e)
	}
	x, e = Write(x, 63, value.Value{Kind: value.Ref, N: 63})
	if e != api.OK || !slices.Equal(x, Txn{{3, num(1), false}, {63, value.Value{Kind: value.Ref, N: 63}, true}}) {
		t.Fatalf("Write: %v, %d", x, e)
	}
	x, e = Write(x, 0, value.Value{})
	if e != api.OK || len(x) != 3 || x[2] != (Step{0, value.Value{}, true}) {
		t.Fatalf("Write of nothing: %v, %d", x, e)
	}
	x, e = Read(x, 3, num(1))
	if e != api.OK || len(x) != 4 || x[3] != (Step{3, num(1), false}) {
		t.Fatalf("Read once more: %v, %d", x, e)
	}
}

func TestEachVariableAndValue(t *testing.T) {
	for v := -2; v <= 66; v++ {
		for _, val := range anyValues {
			for _, x := range []Txn{nil, {}, {read(1, 1)}, {write(v, 4), read(v, 5)}} {
				holdAdd(t, x, Step{v, val, false})
				holdAdd(t, x, Step{v, val, true})
			}
		}
	}
}

func TestAddToAll(t *testing.T) {
	d := dice(81)
	for _, x := range samples(t) {
		for _, v := range append([]int{0, 1, 31, 32, 62, 63, d.below(64)}, noVars...) {
			for _, val := range []value.Value{one(&d, rightValues), one(&d, wrongValues)} {
				holdAdd(t, x, Step{v, val, false})
				holdAdd(t, x, Step{v, val, true})
			}
		}
	}
}

// TestWrongArguments calls for what is no variable alone, what is no value
// alone, and both, of transactions with room and without: that is ErrArg, even
// where ErrFull would hold as well.
func TestWrongArguments(t *testing.T) {
	d := dice(82)
	for _, n := range []int{0, 1, 199, 200} {
		x := made(t, &d, n, 64)
		for _, v := range noVars {
			wrong(t, x, v, num(1), api.ErrArg)
			wrong(t, x, v, one(&d, wrongValues), api.ErrArg)
		}
		for _, val := range wrongValues {
			wrong(t, x, 0, val, api.ErrArg)
			wrong(t, x, 63, val, api.ErrArg)
			wrong(t, x, 64, val, api.ErrArg)
		}
	}
}

func wrong(t *testing.T, x Txn, v int, val value.Value, e api.Errno) {
	t.Helper()
	hold(t, x, func(x Txn) (Txn, api.Errno) { return Read(x, v, val) }, x, e)
	hold(t, x, func(x Txn) (Txn, api.Errno) { return Write(x, v, val) }, x, e)
}

func TestRoom(t *testing.T) {
	d := dice(83)
	for _, n := range []int{198, 199} {
		x := made(t, &d, n, 64)
		for _, call := range []func(Txn, int, value.Value) (Txn, api.Errno){Read, Write} {
			if got, e := call(x, 5, num(5)); e != api.OK || len(got) != n+1 || !slices.Equal(got[:n], x) {
				t.Errorf("of %d steps: %d, %d", n, len(got), e)
			}
		}
	}
	full := made(t, &d, 200, 64)
	for _, val := range rightValues {
		wrong(t, full, 0, val, api.ErrFull)
		wrong(t, full, 63, val, api.ErrFull)
	}
	for _, n := range []int{201, 255, 256, 257, 456, 1000} {
		wrong(t, wild(&d, n), 5, num(5), api.ErrFull)
	}
}

// TestRoomBehindABack fills a transaction, and has room again for as many
// Writes as it went back behind.
func TestRoomBehindABack(t *testing.T) {
	x := Txn{}
	for i := range 200 {
		x, _ = Write(x, i%64, num(int64(i)))
	}
	x, _ = Back(x, 150)
	for i := range 50 {
		next, e := Read(x, i, num(1))
		if e != api.OK {
			t.Fatalf("step %d behind the Back: %d", i, e)
		}
		x = next
	}
	if _, e := Read(x, 0, num(1)); e != api.ErrFull {
		t.Errorf("one more: %d", e)
	}
	if x, _ = Back(x, 150); len(x) != 200 {
		t.Errorf("reads are gone: %d steps are left", len(x))
	}
}

// TestTwoOutOfOne lets two transactions grow out of the same one, at each of
// its steps, with memory behind it and without.
func TestTwoOutOfOne(t *testing.T) {
	d := dice(84)
	x := made(t, &d, 198, 64)
	for n := range x {
		for _, from := range []Txn{x[:n], x[:n:n], append(make(Txn, 0, 300), x[:n]...)} {
			a, _ := Read(from, 1, num(1))
			b, _ := Write(from, 2, num(2))
			aa, _ := Write(a, 3, num(3))
			ab, _ := Read(a, 4, num(4))
			bb, _ := Back(b, n)
			if !slices.Equal(a, append(slices.Clone(x[:n]), read(1, 1))) || !slices.Equal(b, append(slices.Clone(x[:n]), write(2, 2))) {
				t.Fatalf("out of %v: %v, and %v", from, a, b)
			}
			if aa[n+1] != write(3, 3) || ab[n+1] != read(4, 4) || !slices.Equal(aa[:n+1], a) || !slices.Equal(ab[:n+1], a) || !slices.Equal(bb, x[:n]) {
				t.Fatalf("out of these: %v, %v, %v", aa, ab, bb)
			}
		}
	}
}

// P8.2

func TestLook(t *testing.T) {
	a, b, c := value.Value{Kind: value.Nil}, num(2), value.Value{Kind: value.Ref, N: 3}
	for _, k := range []struct {
		x    Txn
		v    int
		want value.Value
		is   bool
	}{
		{nil, 0, a, false},
		{Txn{}, 63, a, false},
		{Txn{{0, b, false}}, 0, b, true},
		{Txn{{0, b, false}}, 1, a, false},
		{Txn{{1, a, false}, {1, b, false}}, 1, a, true},
		{Txn{{63, b, true}}, 63, b, true},
		{Txn{{5, b, true}, {5, c, true}}, 5, c, true},
		{Txn{{5, c, true}, {5, b, true}, {5, a, true}}, 5, a, true},
		{Txn{{5, b, false}, {5, c, true}}, 5, c, true},
		{Txn{{5, c, true}, {5, b, false}}, 5, c, true},
		{Txn{{5, b, false}, {5, c, true}, {5, a, false}}, 5, c, true},
		{Txn{{5, b, false}, {6, c, true}, {5, c, false}}, 5, b, true},
		{Txn{{5, b, false}, {6, c, true}, {5, c, false}}, 6, c, true},
		{Txn{{-1, b, false}, {64, c, true}}, -1, b, true},
		{Txn{{-1, b, false}, {64, c, true}}, 64, c, true},
		{Txn{{-1, b, false}, {64, c, true}}, 0, a, false},
		{Txn{{4, value.Value{Kind: 9, N: 9}, true}}, 4, value.Value{Kind: 9, N: 9}, true},
	} {
		if got, is := Look(k.x, k.v); got != k.want || is != k.is {
			t.Errorf("Look of %d of %v: %v, %v", k.v, k.x, got, is)
		}
	}
}

func TestAskedOfAll(t *testing.T) {
	for _, x := range samples(t) {
		holdAsked(t, x)
	}
}

// TestAskedOfEachShort asks all transactions of up to 5 steps of two variables.
func TestAskedOfEachShort(t *testing.T) {
	var grow func(x Txn)
	grow = func(x Txn) {
		for v := range 3 {
			holdLook(t, x, v)
		}
		if !slices.Equal(Reads(x), wantReads(x)) || !slices.Equal(Writes(x), wantWrites(x)) {
			t.Fatalf("of %v: Reads %v, Writes %v", x, Reads(x), Writes(x))
		}
		for to := -1; to <= len(x)+1; to++ {
			holdBack(t, x, to)
		}
		if len(x) == 5 {
			return
		}
		for v := range 2 {
			for _, w := range []bool{false, true} {
				grow(append(x[:len(x):len(x)], Step{v, num(int64(len(x))), w}))
			}
		}
	}
	grow(nil)
}

// P8.3

func TestReadsAndWrites(t *testing.T) {
	x := Txn{
		write(63, 1), read(63, 2), read(9, 3), write(9, 4), read(9, 5), write(9, 6), read(0, 7),
		write(5, 8), read(7, 9), read(7, 10), write(0, 11), write(63, 12), read(63, 13),
	}
	if l := Reads(x); !slices.Equal(l, []Step{read(0, 7), read(7, 9), read(9, 3), read(63, 2)}) {
		t.Errorf("Reads: %v", l)
	}
	if l := Writes(x); !slices.Equal(l, []Step{write(0, 11), write(5, 8), write(9, 6), write(63, 12)}) {
		t.Errorf("Writes: %v", l)
	}
	if l := Reads(nil); len(l) != 0 {
		t.Errorf("Reads of nil: %v", l)
	}
	if l := Writes(Txn{}); len(l) != 0 {
		t.Errorf("Writes of no steps: %v", l)
	}
	if l := Reads(Txn{write(1, 1), write(2, 2)}); len(l) != 0 {
		t.Errorf("Reads of Writes alone: %v", l)
	}
	if l := Writes(Txn{read(1, 1), read(2, 2)}); len(l) != 0 {
		t.Errorf("Writes of Reads alone: %v", l)
	}
}

func TestStepsOfNoVariables(t *testing.T) {
	bad := value.Value{Kind: 9, N: 9}
	x := Txn{read(2, 1), {2, bad, true}, {1, bad, false}, write(1, 2)}
	for _, v := range noVars {
		x = append(x, read(v, 3), write(v, 4))
	}
	if l := Reads(x); !slices.Equal(l, []Step{{1, bad, false}, read(2, 1)}) {
		t.Errorf("Reads: %v", l)
	}
	if l := Writes(x); !slices.Equal(l, []Step{write(1, 2), {2, bad, true}}) {
		t.Errorf("Writes: %v", l)
	}
}

// TestAllVariablesFalling has a Read and a Write of each variable, the greatest
// one first.
func TestAllVariablesFalling(t *testing.T) {
	var x Txn
	for v := 63; v >= 0; v-- {
		x, _ = Read(x, v, num(int64(v)))
		x, _ = Write(x, v, num(int64(-v)))
	}
	reads, writes := Reads(x), Writes(x)
	if len(reads) != 64 || len(writes) != 64 {
		t.Fatalf("%d Reads, %d Writes", len(reads), len(writes))
	}
	for v := range 64 {
		if reads[v] != read(v, int64(v)) || writes[v] != write(v, int64(-v)) {
			t.Errorf("of %d: %v, %v", v, reads[v], writes[v])
		}
	}
}

// TestAnswersAreApart writes over what one call told, and asks again.
func TestAnswersAreApart(t *testing.T) {
	d := dice(85)
	x := made(t, &d, 150, 64)
	reads, writes := Reads(x), Writes(x)
	for i := range reads {
		reads[i] = Step{-1, num(-1), true}
	}
	for i := range writes {
		writes[i] = Step{-1, num(-1), false}
	}
	if !slices.Equal(Reads(x), wantReads(x)) || !slices.Equal(Writes(x), wantWrites(x)) {
		t.Errorf("asked again: %v, %v", Reads(x), Writes(x))
	}
}

// P8.4

func TestSave(t *testing.T) {
	var x Txn
	for n := range 200 {
		if got := Save(x); got != n {
			t.Fatalf("Save of %d steps: %d", n, got)
		}
		x, _ = []func(Txn, int, value.Value) (Txn, api.Errno){Read, Write}[n%2](x, n%3, num(1))
	}
	if Save(x) != 200 || Save(Txn{}) != 0 || Save(make(Txn, 1000)) != 1000 {
		t.Errorf("Save of 200, 0 and 1000 steps: %d, %d, %d", Save(x), Save(Txn{}), Save(make(Txn, 1000)))
	}
}

func TestBack(t *testing.T) {
	x := Txn{write(1, 1), read(2, 2), write(2, 3), read(1, 4), write(3, 5), read(3, 6)}
	for to, want := range []Txn{
		{x[1], x[3], x[5]},
		{x[0], x[1], x[3], x[5]},
		{x[0], x[1], x[3], x[5]},
		{x[0], x[1], x[2], x[3], x[5]},
		{x[0], x[1], x[2], x[3], x[5]},
		x,
		x,
	} {
		if got, e := Back(x, to); e != api.OK || !slices.Equal(got, want) {
			t.Errorf("Back to %d: %v, %d", to, got, e)
		}
	}
	for _, to := range []int{-1, 7} {
		if got, e := Back(x, to); e != api.ErrArg || !slices.Equal(got, x) {
			t.Errorf("Back to %d: %v, %d", to, got, e)
		}
	}
	for _, none := range []Txn{nil, {}} {
		if got, e := Back(none, 0); e != api.OK || len(got) != 0 {
			t.Errorf("Back of no steps: %v, %d", got, e)
		}
	}
}

// TestBackToNoStep goes to numbers that lie in memory behind a transaction, and
// to far ones.
func TestBackToNoStep(t *testing.T) {
	whole := make(Txn, 10)
	for _, to := range []int{5, 6, 10} {
		if got, e := Back(whole[:4], to); e != api.ErrArg || len(got) != 4 {
			t.Errorf("Back to %d of 4: %d steps, %d", to, len(got), e)
		}
	}
	for _, x := range samples(t) {
		for _, to := range append([]int{-1, len(x) + 1, -len(x) - 1, 1<<32 + len(x)}, noVars...) {
			if to < 0 || to > len(x) {
				hold(t, x, func(x Txn) (Txn, api.Errno) { return Back(x, to) }, x, api.ErrArg)
			}
		}
	}
}

func TestBackOfAll(t *testing.T) {
	for _, x := range samples(t) {
		for to := -1; to <= len(x)+1; to++ {
			holdBack(t, x, to)
		}
	}
}

func TestBackBehindABack(t *testing.T) {
	for _, x := range samples(t) {
		for _, to := range []int{0, len(x) / 3, len(x) / 2, len(x)} {
			once, _ := Back(x, to)
			if twice, e := Back(once, to); e != api.OK || !slices.Equal(twice, once) {
				t.Fatalf("Back to %d, twice: %v, %v, %d", to, once, twice, e)
			}
			if same, e := Back(once, Save(once)); e != api.OK || !slices.Equal(same, once) {
				t.Fatalf("Back to the end of %v: %v, %d", once, same, e)
			}
			far, _ := Back(once, to/2)
			if straight, _ := Back(x, to/2); !slices.Equal(far, straight) {
				t.Fatalf("Back to %d and %d: %v, not %v", to, to/2, far, straight)
			}
		}
	}
}

// P8.5

func TestExample(t *testing.T) {
	x, _ := Write(nil, 1, num(5))
	to := Save(x)
	y, _ := Write(x, 1, num(6))
	if v, is := Look(y, 1); v != num(6) || !is {
		t.Errorf("ahead of the Back: %v, %v", v, is)
	}
	y, e := Back(y, to)
	if v, is := Look(y, 1); e != api.OK || v != num(5) || !is {
		t.Errorf("behind the Back: %v, %v, %d", v, is, e)
	}
}

// TestWrittenLastIsLookedUp writes to transactions of all kinds, and reads
// other things behind that.
func TestWrittenLastIsLookedUp(t *testing.T) {
	d := dice(86)
	for _, x := range samples(t) {
		for v := range 64 {
			val := one(&d, rightValues)
			y, e := Write(x, v, val)
			if e != api.OK {
				continue
			}
			for range 3 {
				y, _ = Read(y, v, one(&d, rightValues))
				y, _ = Write(y, (v+1)%64, one(&d, rightValues))
			}
			if got, is := Look(y, v); got != val || !is {
				t.Fatalf("%v was written to %d, and %v is looked up (%v)", val, v, got, is)
			}
		}
	}
}

// TestWritesComeBack goes on from a Save by many steps, and then back.
func TestWritesComeBack(t *testing.T) {
	for seed := range 200 {
		d := dice(seed)
		x := made(t, &d, d.below(201), []int{1, 3, 64}[seed%3])
		to, y := Save(x), x
		for range d.below(100) {
			call := one(&d, []func(Txn, int, value.Value) (Txn, api.Errno){Read, Write})
			y, _ = call(y, d.below(64), one(&d, rightValues))
		}
		back, e := Back(y, to)
		if e != api.OK || !slices.Equal(Writes(back), Writes(x)) {
			t.Fatalf("walk %d: Writes were %v, and are %v, %d", seed, Writes(x), Writes(back), e)
		}
		if !slices.Equal(Reads(back), Reads(y)) {
			t.Fatalf("walk %d: Reads were %v, and are %v", seed, Reads(y), Reads(back))
		}
		for _, s := range Reads(x) {
			if !slices.Contains(Reads(back), s) {
				t.Fatalf("walk %d: %v is not read any more", seed, s)
			}
		}
		if !slices.Equal(back[:to], x) {
			t.Fatalf("walk %d: %v does not begin with %v", seed, back, x)
		}
	}
}

// TestWalks goes through many calls in many orders, wrong ones among them, and
// looks at the end at every transaction on the way. Now and then it goes on
// from an earlier one.
func TestWalks(t *testing.T) {
	for seed := range 60 {
		d := dice(seed)
		var x Txn
		if seed%3 == 2 {
			x = wild(&d, d.below(220))
		}
		var seen, copies []Txn
		for range 400 {
			seen, copies = append(seen, x), append(copies, slices.Clone(x))
			if d.below(20) == 0 {
				x = one(&d, seen)
			}
			x = step(t, &d, x)
		}
		for i := range seen {
			if !slices.Equal(seen[i], copies[i]) {
				t.Fatalf("walk %d: the transaction ahead of step %d is now %v, not %v", seed, i, seen[i], copies[i])
			}
			if i%50 == 0 {
				holdAsked(t, seen[i])
			}
		}
	}
}

// step calls for one thing, by chance, and by the words alone, which must come
// to the same.
func step(t *testing.T, d *dice, x Txn) Txn {
	t.Helper()
	mine := slices.Clone(x)
	s := Step{d.anyVar(), one(d, append(slices.Clone(rightValues), one(d, wrongValues))), d.below(2) == 0}
	to := len(x) + 1 - d.below(len(x)+3)
	var e, mineE api.Errno
	switch kind := d.below(30); {
	case kind == 0:
		x, e = Back(x, to)
		mine, mineE = wantBack(mine, to)
	case s.Write:
		x, e = Write(x, s.X, s.V)
		mine, mineE = wantAdd(mine, s)
	default:
		x, e = Read(x, s.X, s.V)
		mine, mineE = wantAdd(mine, s)
	}
	if e != mineE || !slices.Equal(x, mine) {
		t.Fatalf("%v, %d, not %v, %d", x, e, mine, mineE)
	}
	holdLook(t, x, s.X)
	return x
}

// TestVeryLong asks a transaction that no call made, of far more steps than
// there may be.
func TestVeryLong(t *testing.T) {
	d := dice(87)
	x := wild(&d, 100000)
	for i := range 50000 {
		x[2*i].X += 100000 + i
	}
	was := slices.Clone(x)
	if !slices.Equal(Reads(x), wantReads(x)) || !slices.Equal(Writes(x), wantWrites(x)) || Save(x) != 100000 {
		t.Errorf("Reads %v, Writes %v, Save %d", Reads(x), Writes(x), Save(x))
	}
	for _, v := range []int{-1, 0, 63, 64, x[0].X, x[99998].X, 7777777} {
		holdLook(t, x, v)
	}
	for _, to := range []int{-1, 0, 200, 50000, 100000, 100001} {
		holdBack(t, x, to)
	}
	wrong(t, x, 0, num(0), api.ErrFull)
	wrong(t, x, 64, num(0), api.ErrArg)
	if !slices.Equal(x, was) {
		t.Error("it is changed")
	}
}
