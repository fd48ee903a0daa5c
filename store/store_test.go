package store

import (
	"math"
	"slices"
	"testing"

	"warpbeam/api"
	"warpbeam/set"
	"warpbeam/value"
)

// far is numbers that are no slots and no variables of any store, some of which
// a cut to fewer bits, or a shift, would take for others.
var far = []int{-1 << 32, 1 - 1<<32, math.MinInt, math.MinInt + 1, 1 << 32, 1<<32 + 1, 1<<32 + 31, math.MaxInt - 1, math.MaxInt}

// noSlots is what is no slot, -1 aside.
var noSlots = append([]int{-2, -3, -31, -32, -33, -64, 32, 33, 40, 63, 64, 65, 95, 96, 128, 256, 1000}, far...)

// versions is what a version may be: any number.
var versions = []int{0, 1, -1, 2, 5, 31, 32, 64, 255, 1 << 31, 1<<32 + 3, -1 << 40, math.MaxInt, math.MinInt}

var rightValues = []value.Value{
	{Kind: value.Nil},
	{Kind: value.Int}, {Kind: value.Int, N: 7}, {Kind: value.Int, N: -7}, {Kind: value.Int, N: 64},
	{Kind: value.Int, N: math.MaxInt64}, {Kind: value.Int, N: math.MinInt64},
	{Kind: value.Ref}, {Kind: value.Ref, N: 3}, {Kind: value.Ref, N: 62}, {Kind: value.Ref, N: 63},
}

var wrongValues = []value.Value{
	{Kind: value.Nil, N: 1}, {Kind: value.Nil, N: -1}, {Kind: value.Nil, N: math.MinInt64},
	{Kind: value.Ref, N: -1}, {Kind: value.Ref, N: 64}, {Kind: value.Ref, N: 1 << 32}, {Kind: value.Ref, N: math.MaxInt64}, {Kind: value.Ref, N: math.MinInt64},
	{Kind: -1}, {Kind: 3}, {Kind: 9, N: 7}, {Kind: 256}, {Kind: 1<<32 + 1}, {Kind: math.MaxInt}, {Kind: math.MinInt},
}

// dice is a row of numbers without a pattern, the same ones in every run.
type dice uint64

func (d *dice) next() uint64 {
	*d = *d*6364136223846793005 + 1442695040888963407
	return uint64(*d) >> 33
}

func (d *dice) below(n int) int { return int(d.next() % uint64(n)) }

func one[T any](d *dice, l []T) T { return l[d.below(len(l))] }

// wild is a store of n variables that no call made.
func wild(d *dice, n int) Store {
	s := make(Store, n)
	for x := range s {
		s[x] = Var{
			V:       one(d, append(slices.Clone(rightValues), wrongValues...)),
			Version: one(d, versions),
			Writer:  one(d, append([]int{-1, 0, 1, 31, d.below(32)}, noSlots...)),
			Marks:   set.Set(d.next()<<33 ^ d.next()<<11 ^ d.next()),
		}
	}
	return s
}

// made is a store of n variables that came from calls.
func made(t *testing.T, d *dice, n int) Store {
	t.Helper()
	s, is := New(n)
	if !is {
		t.Fatalf("New of %d: none", n)
	}
	for range 3 * n {
		s, _ = Put(s, d.below(n), one(d, rightValues), one(d, versions), d.below(33)-1)
		s, _ = Mark(s, d.below(n), d.below(32))
		s, _ = Mark(s, d.below(n), d.below(32))
	}
	return s
}

// samples is stores of many kinds: without variables, with one, with as many
// as there may be, some from calls, and some that no call made (more variables
// than there may be, too).
func samples(t *testing.T) []Store {
	d := dice(7)
	zero, _ := New(0)
	l := []Store{nil, {}, zero, make(Store, 0, 4), make(Store, 1), make(Store, 3), make(Store, 70)}
	for _, n := range []int{1, 2, 3, 63, 64} {
		fresh, _ := New(n)
		l = append(l, fresh, made(t, &d, n), made(t, &d, n))
	}
	for _, n := range []int{1, 1, 2, 5, 64, 65, 100} {
		l = append(l, wild(&d, n))
	}
	return l
}

// around is numbers of s's variables, and at both sides of them.
func around(s Store) []int {
	l := append([]int{-2, -1, 0, 1, 31, 32, 63, 64, 65}, far...)
	return append(l, len(s)/2, len(s)-1, len(s), len(s)+1, -len(s))
}

// in answers from the bits alone.
func in(s set.Set, i int) bool {
	return i >= 0 && i <= 63 && s>>i&1 == 1
}

// among answers from the words of P7.2 whether x is a variable.
func among(s Store, x int) bool {
	return 0 <= x && x <= len(s)-1
}

// put answers from the words of P7.2.
func put(s Store, x int, v value.Value, version, writer int) (Store, api.Errno) {
	if !among(s, x) {
		return s, api.ErrNone
	}
	if !value.Right(v) || !(-1 <= writer && writer <= 31) {
		return s, api.ErrArg
	}
	l := append(Store{}, s[:x]...)
	l = append(l, Var{v, version, writer, 0})
	return append(l, s[x+1:]...), api.OK
}

// mark answers from the words of P7.3.
func mark(s Store, x, slot int) (Store, api.Errno) {
	if !among(s, x) {
		return s, api.ErrNone
	}
	if !(0 <= slot && slot <= 31) {
		return s, api.ErrArg
	}
	l := append(Store{}, s[:x]...)
	l = append(l, Var{s[x].V, s[x].Version, s[x].Writer, s[x].Marks | 1<<slot})
	return append(l, s[x+1:]...), api.OK
}

// drop answers from the words of P7.3.
func drop(s Store, slot int) Store {
	var l Store
	for _, v := range s {
		var marks set.Set
		for i := range 64 {
			if i != slot && in(v.Marks, i) {
				marks |= 1 << i
			}
		}
		writer := v.Writer
		if writer == slot {
			writer = -1
		}
		l = append(l, Var{v.V, v.Version, writer, marks})
	}
	return l
}

// hold calls with s as a piece of a longer list, and checks that neither s nor
// what lies beside it in memory is changed; that the answer is want and e; and,
// unless it is an error, that s and the answer share nothing.
func hold(t *testing.T, s Store, call func(Store) (Store, api.Errno), want Store, e api.Errno) {
	t.Helper()
	whole := make(Store, len(s)+4)
	for i := range whole {
		whole[i] = Var{value.Value{Kind: 77, N: int64(i)}, 77, 77, 77}
	}
	handed := whole[2 : 2+len(s)]
	copy(handed, s)
	was := slices.Clone(whole)
	got, gotE := call(handed)
	if gotE != e || !slices.Equal(got, want) {
		t.Fatalf("of %v: %v, %d, not %v, %d", s, got, gotE, want, e)
	}
	if !slices.Equal(whole, was) {
		t.Fatalf("what was handed in is now %v, not %v", whole, was)
	}
	if e != api.OK {
		return
	}
	answer := slices.Clone(got)
	for i := range whole {
		whole[i].V.N, whole[i].Version, whole[i].Writer, whole[i].Marks = 991, 992, 993, 994
	}
	if !slices.Equal(got, answer) {
		t.Fatalf("the answer of %v is changed with what was handed in", s)
	}
	copy(whole, was)
	for i := range got[:cap(got)] {
		got[:cap(got)][i] = Var{Version: 995}
	}
	if !slices.Equal(whole, was) {
		t.Fatalf("%v is changed with the answer", s)
	}
}

func holdPut(t *testing.T, s Store, x int, v value.Value, version, writer int) {
	t.Helper()
	want, e := put(s, x, v, version, writer)
	hold(t, s, func(s Store) (Store, api.Errno) { return Put(s, x, v, version, writer) }, want, e)
}

func holdMark(t *testing.T, s Store, x, slot int) {
	t.Helper()
	want, e := mark(s, x, slot)
	hold(t, s, func(s Store) (Store, api.Errno) { return Mark(s, x, slot) }, want, e)
}

func holdDrop(t *testing.T, s Store, slot int) {
	t.Helper()
	hold(t, s, func(s Store) (Store, api.Errno) { return Drop(s, slot), api.OK }, drop(s, slot), api.OK)
}

// P7.1

func TestNew(t *testing.T) {
	for n := 0; n <= 64; n++ {
		s, is := New(n)
		if !is || len(s) != n {
			t.Fatalf("New of %d: %d variables, %v", n, len(s), is)
		}
		for x, v := range s {
			if v != (Var{value.Value{Kind: 1, N: 0}, 0, -1, 0}) {
				t.Errorf("New of %d, variable %d: %v", n, x, v)
			}
		}
	}
}

func TestNewOfTooFewOrMany(t *testing.T) {
	for _, n := range append([]int{-1, -2, -64, 65, 66, 128, 256, 320}, far...) {
		if s, is := New(n); is || len(s) != 0 {
			t.Errorf("New of %d: %d variables, %v", n, len(s), is)
		}
	}
}

func TestNewIsNew(t *testing.T) {
	a, _ := New(2)
	a[0].Marks, a[1].Version = 5, 5
	if b, _ := New(2); b[0].Marks != 0 || b[1].Version != 0 {
		t.Errorf("New behind a change of the one before: %v", b)
	}
}

func TestExample(t *testing.T) {
	s, is := New(2)
	zero := value.Value{Kind: value.Int, N: 0}
	if !is || !slices.Equal(Values(s), []value.Value{zero, zero}) {
		t.Errorf("New of 2: %v, %v", s, is)
	}
}

// P7.2

func TestGet(t *testing.T) {
	for _, s := range samples(t) {
		was := slices.Clone(s)
		for x := range s {
			if v, e := Get(s, x); v != was[x] || e != api.OK {
				t.Fatalf("Get of %d of %v: %v, %d", x, s, v, e)
			}
		}
		for _, x := range around(s) {
			if v, e := Get(s, x); !among(s, x) && (v != (Var{}) || e != api.ErrNone) {
				t.Errorf("Get of %d of %d variables: %v, %d", x, len(s), v, e)
			}
		}
		if !slices.Equal(s, was) {
			t.Fatalf("%v is now %v", was, s)
		}
	}
}

// TestNoMoreThanItsLength asks for variables that lie behind a store in memory.
func TestNoMoreThanItsLength(t *testing.T) {
	whole, _ := New(5)
	s := whole[:2]
	if v, e := Get(s, 2); v != (Var{}) || e != api.ErrNone {
		t.Errorf("Get: %v, %d", v, e)
	}
	if got, e := Put(s, 2, value.Value{Kind: 1, N: 1}, 1, 1); len(got) != 2 || e != api.ErrNone {
		t.Errorf("Put: %v, %d", got, e)
	}
	if got, e := Mark(s, 2, 1); len(got) != 2 || e != api.ErrNone {
		t.Errorf("Mark: %v, %d", got, e)
	}
	if len(Drop(s, 1)) != 2 || len(Values(s)) != 2 {
		t.Error("Drop, or Values")
	}
}

func TestPut(t *testing.T) {
	v := value.Value{Kind: value.Ref, N: 3}
	s := Store{{value.Value{Kind: 1, N: 1}, 1, 4, 9}, {value.Value{Kind: 1, N: 2}, 2, 5, 34}, {value.Value{Kind: 1, N: 3}, 3, 6, 7}}
	for _, writer := range []int{-1, 0, 31} {
		got, e := Put(s, 1, v, 8, writer)
		if e != api.OK || !slices.Equal(got, Store{s[0], {v, 8, writer, 0}, s[2]}) {
			t.Errorf("Put by %d: %v, %d", writer, got, e)
		}
	}
	for x := range s {
		got, e := Put(s, x, v, -8, x)
		if e != api.OK || got[x] != (Var{v, -8, x, 0}) {
			t.Errorf("Put of %d: %v, %d", x, got, e)
		}
	}
}

func TestPutOfAll(t *testing.T) {
	d := dice(21)
	for _, s := range samples(t) {
		for _, x := range around(s) {
			for _, v := range rightValues {
				for writer := -1; writer <= 31; writer += 4 {
					holdPut(t, s, x, v, one(&d, versions), writer)
				}
			}
		}
	}
}

func TestPutOfEachVariableAndWriter(t *testing.T) {
	d := dice(22)
	s := wild(&d, 64)
	for x := range s {
		for writer := -2; writer <= 32; writer++ {
			holdPut(t, s, x, one(&d, rightValues), one(&d, versions), writer)
		}
	}
}

func TestPutOfEachVersion(t *testing.T) {
	s, _ := New(3)
	for _, version := range versions {
		got, e := Put(s, 2, value.Value{Kind: 1, N: 9}, version, -1)
		if e != api.OK || got[2] != (Var{value.Value{Kind: 1, N: 9}, version, -1, 0}) {
			t.Errorf("Put of version %d: %v, %d", version, got, e)
		}
	}
}

// TestPutWrong puts a wrong value alone, a wrong writer alone, and both; and
// each of them where there is no such variable.
func TestPutWrong(t *testing.T) {
	good := value.Value{Kind: 1, N: 1}
	for _, s := range samples(t) {
		for _, x := range around(s) {
			e := api.ErrNone
			if among(s, x) {
				e = api.ErrArg
			}
			for _, v := range wrongValues {
				wrongPut(t, s, x, v, 3, e)
				wrongPut(t, s, x, v, -1, e)
				wrongPut(t, s, x, v, 32, e)
			}
			for _, writer := range noSlots {
				wrongPut(t, s, x, good, writer, e)
			}
		}
	}
}

func wrongPut(t *testing.T, s Store, x int, v value.Value, writer int, e api.Errno) {
	t.Helper()
	hold(t, s, func(s Store) (Store, api.Errno) { return Put(s, x, v, 5, writer) }, s, e)
}

// P7.3

func TestMark(t *testing.T) {
	s, _ := New(3)
	for _, slot := range []int{31, 0, 5, 5, 31} {
		s, _ = Mark(s, 1, slot)
	}
	first := Var{V: value.Value{Kind: 1}, Writer: -1}
	if !slices.Equal(s, Store{first, {V: first.V, Writer: -1, Marks: 1<<31 | 1<<5 | 1}, first}) {
		t.Errorf("marked: %v", s)
	}
	again, e := Mark(s, 1, 5)
	if e != api.OK || !slices.Equal(again, s) {
		t.Errorf("marked once more: %v, %d", again, e)
	}
}

func TestMarkOfAll(t *testing.T) {
	for _, s := range samples(t) {
		for _, x := range around(s) {
			for slot := range 32 {
				holdMark(t, s, x, slot)
			}
		}
		for x := range s {
			holdMark(t, s, x, 0)
			holdMark(t, s, x, x%32)
			holdMark(t, s, x, 31)
		}
	}
}

func TestMarkWrong(t *testing.T) {
	for _, s := range samples(t) {
		for _, x := range around(s) {
			e := api.ErrNone
			if among(s, x) {
				e = api.ErrArg
			}
			for _, slot := range append([]int{-1}, noSlots...) {
				hold(t, s, func(s Store) (Store, api.Errno) { return Mark(s, x, slot) }, s, e)
			}
		}
	}
}

func TestDrop(t *testing.T) {
	a, b := value.Value{Kind: 1, N: 1}, value.Value{Kind: 2, N: 2}
	s := Store{{a, 1, 2, 1 << 2}, {b, 2, 2, 1<<31 | 1<<2 | 1}, {a, 3, 0, 1 << 2}, {b, 4, -1, 1<<3 | 1<<1}, {a, 5, 31, 0}}
	for _, c := range []struct {
		slot int
		want Store
	}{
		{2, Store{{a, 1, -1, 0}, {b, 2, -1, 1<<31 | 1}, {a, 3, 0, 0}, s[3], s[4]}},
		{0, Store{s[0], {b, 2, 2, 1<<31 | 1<<2}, {a, 3, -1, 1 << 2}, s[3], s[4]}},
		{31, Store{s[0], {b, 2, 2, 1<<2 | 1}, s[2], s[3], {a, 5, -1, 0}}},
		{1, Store{s[0], s[1], s[2], {b, 4, -1, 1 << 3}, s[4]}},
		{7, s},
		{-1, s},
		{-2, s},
		{32, s},
		{64, s},
		{math.MaxInt, s},
		{math.MinInt, s},
	} {
		if got := Drop(s, c.slot); !slices.Equal(got, c.want) {
			t.Errorf("Drop of %d: %v, not %v", c.slot, got, c.want)
		}
	}
}

func TestDropOfAll(t *testing.T) {
	for _, s := range samples(t) {
		for slot := -3; slot <= 66; slot++ {
			holdDrop(t, s, slot)
		}
		for _, slot := range noSlots {
			holdDrop(t, s, slot)
		}
	}
}

// TestNoVariables asks stores without variables, nil ones among them, as they
// are.
func TestNoVariables(t *testing.T) {
	zero, _ := New(0)
	for _, s := range []Store{nil, {}, zero} {
		for _, x := range around(s) {
			if v, e := Get(s, x); v != (Var{}) || e != api.ErrNone {
				t.Errorf("Get: %v, %d", v, e)
			}
			for _, slot := range append([]int{-1, 0, 31}, noSlots...) {
				if got, e := Put(s, x, value.Value{Kind: 9}, 1, slot); len(got) != 0 || e != api.ErrNone {
					t.Errorf("Put: %v, %d", got, e)
				}
				if got, e := Mark(s, x, slot); len(got) != 0 || e != api.ErrNone {
					t.Errorf("Mark: %v, %d", got, e)
				}
				if got := Drop(s, slot); len(got) != 0 {
					t.Errorf("Drop: %v", got)
				}
			}
		}
		if l := Values(s); len(l) != 0 {
			t.Errorf("Values: %v", l)
		}
	}
}

// P7.4

func TestValues(t *testing.T) {
	for _, s := range samples(t) {
		was := slices.Clone(s)
		l := Values(s)
		if len(l) != len(s) {
			t.Fatalf("Values of %d variables: %d", len(s), len(l))
		}
		for x := range s {
			if l[x] != s[x].V {
				t.Errorf("Values of %v, number %d: %v", s, x, l[x])
			}
		}
		for x := range l {
			l[x] = value.Value{Kind: 55, N: 55}
		}
		if !slices.Equal(s, was) {
			t.Fatalf("%v is now %v", was, s)
		}
	}
}

func TestValuesStay(t *testing.T) {
	s, _ := New(3)
	l := Values(s)
	s[1].V.N = 8
	if zero := (value.Value{Kind: 1}); !slices.Equal(l, []value.Value{zero, zero, zero}) {
		t.Errorf("Values behind a change of the store: %v", l)
	}
}

// P7.5

// TestWalks goes through many calls in many orders, wrong ones among them, and
// looks at the end at every store on the way.
func TestWalks(t *testing.T) {
	for seed := range 60 {
		d := dice(seed)
		n := []int{0, 1, 2, 5, 64}[seed%5]
		s, _ := New(n)
		if seed%3 == 2 {
			s = wild(&d, n)
		}
		mine := slices.Clone(s)
		var stores, copies []Store
		for range 300 {
			stores, copies = append(stores, s), append(copies, slices.Clone(s))
			s, mine = step(t, &d, s, mine)
		}
		for i := range stores {
			if !slices.Equal(stores[i], copies[i]) {
				t.Fatalf("walk %d: the store ahead of step %d is now %v, not %v", seed, i, stores[i], copies[i])
			}
		}
	}
}

// step calls for one thing, by chance, of s and by the words alone of mine,
// which must come to the same.
func step(t *testing.T, d *dice, s, mine Store) (Store, Store) {
	t.Helper()
	x, slot := d.below(len(s)+2)-1, d.below(35)-2
	var e, mineE api.Errno
	switch d.below(3) {
	case 0:
		v := one(d, append(slices.Clone(rightValues), wrongValues[d.below(len(wrongValues))]))
		version := one(d, versions)
		s, e = Put(s, x, v, version, slot)
		mine, mineE = put(mine, x, v, version, slot)
	case 1:
		s, e = Mark(s, x, slot)
		mine, mineE = mark(mine, x, slot)
	case 2:
		s = Drop(s, slot)
		mine = drop(mine, slot)
	}
	if e != mineE || !slices.Equal(s, mine) {
		t.Fatalf("%v, %d, not %v, %d", s, e, mine, mineE)
	}
	return s, mine
}

// TestApart does a thing with one variable ahead of one with another, and the
// other way round.
func TestApart(t *testing.T) {
	d := dice(31)
	v := value.Value{Kind: 1, N: 5}
	things := []func(s Store, x int) Store{
		func(s Store, x int) Store { s, _ = Put(s, x, v, 4, 3); return s },
		func(s Store, x int) Store { s, _ = Put(s, x, v, 4, -1); return s },
		func(s Store, x int) Store { s, _ = Mark(s, x, 3); return s },
		func(s Store, x int) Store { s, _ = Mark(s, x, 31); return s },
	}
	s := made(t, &d, 8)
	for x := range s {
		for y := range s {
			for _, f := range things {
				for _, g := range things {
					there, back := g(f(s, x), y), f(g(s, y), x)
					if x != y && (!slices.Equal(there, back) || there[x] != f(s, x)[x] || there[y] != g(s, y)[y]) {
						t.Fatalf("%d and %d: %v, and %v", x, y, there, back)
					}
				}
			}
		}
	}
}

func TestDroppedIsNowhere(t *testing.T) {
	d := dice(41)
	for range 20 {
		s := made(t, &d, 64)
		was := Values(s)
		for slot := range 32 {
			s = Drop(s, slot)
			for gone := range slot + 1 {
				if isIn(s, gone) {
					t.Fatalf("%d is in %v", gone, s)
				}
			}
			if once := Drop(s, slot); !slices.Equal(once, s) {
				t.Fatalf("%d is dropped twice: %v, and %v", slot, s, once)
			}
		}
		for x, v := range s {
			if v.Writer != -1 || v.Marks != 0 {
				t.Fatalf("behind all drops %d has %v", x, v)
			}
		}
		if !slices.Equal(Values(s), was) {
			t.Fatalf("%v is now %v", was, Values(s))
		}
	}
}

// isIn tells whether slot wrote or marked any variable.
func isIn(s Store, slot int) bool {
	for _, v := range s {
		if v.Writer == slot || in(v.Marks, slot) {
			return true
		}
	}
	return false
}
