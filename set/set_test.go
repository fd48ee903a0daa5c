package set

import (
	"math"
	"slices"
	"testing"
)

const all Set = math.MaxUint64

// outside is numbers that are in no set: the nearest ones, some that a shift
// or a cut to fewer bits would take for others, and the farthest ones.
var outside = []int{-1, -2, -63, -64, -65, -1 << 32, math.MinInt, 64, 65, 127, 128, 256, 1 << 32, 1<<32 + 5, math.MaxInt}

// samples is sets of many kinds: none, all, each number alone, each number
// missing, neighbours, and some without a pattern.
func samples() []Set {
	l := []Set{0, all, 34, 1<<63 | 1, 0x5555555555555555, 0xaaaaaaaaaaaaaaaa, 0xffffffff, 0xffffffff00000000}
	for i := range 64 {
		one := Set(1) << i
		l = append(l, one, all^one, one|one<<1, one-1)
	}
	x := Set(12345)
	for range 300 {
		x = x*6364136223846793005 + 1442695040888963407
		l = append(l, x, x&(x>>7), x|(x<<9))
	}
	return l
}

// inside answers from the words of the chapter alone: bit i says whether i is in s.
func inside(s Set, i int) bool {
	return i >= 0 && i <= 63 && s>>i&1 == 1
}

// P1.1

func TestHas(t *testing.T) {
	for _, s := range samples() {
		for i := -70; i <= 140; i++ {
			if got := Has(s, i); got != inside(s, i) {
				t.Fatalf("Has(%#x, %d) = %v", s, i, got)
			}
		}
	}
	for i := range 64 {
		if Has(0, i) || !Has(all, i) {
			t.Errorf("%d: in none, or not in all", i)
		}
	}
}

func TestWith(t *testing.T) {
	for _, s := range samples() {
		for i := range 64 {
			if got, want := With(s, i), s|Set(1)<<i; got != want {
				t.Fatalf("With(%#x, %d) = %#x, not %#x", s, i, got, want)
			}
		}
	}
	if With(0, 0) != 1 || With(0, 63) != 1<<63 || With(all, 63) != all || With(34, 5) != 34 {
		t.Error("the least and the greatest number, or one that is there")
	}
}

func TestLess(t *testing.T) {
	for _, s := range samples() {
		for i := range 64 {
			want := s
			if inside(s, i) {
				want -= Set(1) << i
			}
			if got := Less(s, i); got != want {
				t.Fatalf("Less(%#x, %d) = %#x, not %#x", s, i, got, want)
			}
		}
	}
	if Less(1, 0) != 0 || Less(1<<63, 63) != 0 || Less(0, 7) != 0 || Less(34, 2) != 34 {
		t.Error("the least and the greatest number, or one that is not there")
	}
}

func TestOutside(t *testing.T) {
	for _, s := range samples() {
		for _, i := range outside {
			if Has(s, i) || With(s, i) != s || Less(s, i) != s {
				t.Fatalf("%#x, %d: Has %v, With %#x, Less %#x", s, i, Has(s, i), With(s, i), Less(s, i))
			}
		}
	}
}

func TestOf(t *testing.T) {
	for _, c := range []struct {
		l    []int
		want Set
	}{
		{nil, 0},
		{[]int{}, 0},
		{[]int{5, 1, 64}, 34},
		{[]int{0}, 1},
		{[]int{63}, 1 << 63},
		{[]int{63, 0}, 1<<63 | 1},
		{[]int{7, 7, 7}, 1 << 7},
		{[]int{-1, 64, 3}, 1 << 3},
		{outside, 0},
		{append(slices.Clone(outside), 2, -9), 1 << 2},
	} {
		if got := Of(c.l...); got != c.want {
			t.Errorf("Of(%v) = %#x, not %#x", c.l, got, c.want)
		}
	}
	if Of() != 0 || Of(5, 1, 64) != 34 {
		t.Error("Of without a list")
	}
}

func TestOfAll(t *testing.T) {
	var l []int
	for i := 200; i >= -200; i-- {
		l = append(l, i, i)
	}
	if got := Of(l...); got != all {
		t.Errorf("Of(200 .. -200) = %#x", got)
	}
}

func TestOfLeavesItsList(t *testing.T) {
	l := []int{9, -1, 64, 3, 3}
	s := Of(l...)
	if !slices.Equal(l, []int{9, -1, 64, 3, 3}) {
		t.Errorf("the list is now %v", l)
	}
	l[0] = 20
	if s != 1<<9|1<<3 {
		t.Errorf("the set is now %#x", s)
	}
}

// P1.2

func TestItems(t *testing.T) {
	if got := Items(34); !slices.Equal(got, []int{1, 5}) {
		t.Errorf("Items(34) = %v", got)
	}
	if got := Items(1<<63 | 1); !slices.Equal(got, []int{0, 63}) {
		t.Errorf("Items of the least and the greatest number = %v", got)
	}
	if got := Items(0); len(got) != 0 {
		t.Errorf("Items(0) = %v", got)
	}
	for _, s := range samples() {
		if got, want := Items(s), itemsOneByOne(s); !slices.Equal(got, want) {
			t.Fatalf("Items(%#x) = %v, not %v", s, got, want)
		}
	}
}

func itemsOneByOne(s Set) []int {
	var l []int
	for i := range 64 {
		if inside(s, i) {
			l = append(l, i)
		}
	}
	return l
}

func TestItemsAreNew(t *testing.T) {
	a := Items(34)
	a[0] = 40
	if b := Items(34); !slices.Equal(b, []int{1, 5}) {
		t.Errorf("Items(34) behind a change of the one before = %v", b)
	}
}

func TestFirst(t *testing.T) {
	if First(0) != -1 || First(all) != 0 || First(1<<63) != 63 || First(34) != 1 {
		t.Errorf("First: %d %d %d %d", First(0), First(all), First(1<<63), First(34))
	}
	for _, s := range samples() {
		want := -1
		if l := itemsOneByOne(s); len(l) > 0 {
			want = l[0]
		}
		if got := First(s); got != want {
			t.Fatalf("First(%#x) = %d, not %d", s, got, want)
		}
	}
}

func TestCount(t *testing.T) {
	if Count(0) != 0 || Count(all) != 64 || Count(1<<63) != 1 || Count(34) != 2 {
		t.Errorf("Count: %d %d %d %d", Count(0), Count(all), Count(1<<63), Count(34))
	}
	for _, s := range samples() {
		if got, want := Count(s), len(itemsOneByOne(s)); got != want {
			t.Fatalf("Count(%#x) = %d, not %d", s, got, want)
		}
	}
}

// P1.3

func TestBack(t *testing.T) {
	for _, s := range samples() {
		if got := Of(Items(s)...); got != s {
			t.Fatalf("Of of the items of %#x = %#x", s, got)
		}
	}
}
