package span

import (
	"math"
	"testing"
)

// times is when spans may begin or end: the least, the greatest, and some
// between, next to each other and far apart.
var times = []int64{0, 1, 2, 3, 4, 9, 1000, 1<<32 - 1, 1 << 32, 1<<52 + 1, Never - 2, Never - 1, Never}

// wrongTimes is when none does: below 0 and above Never, some of them such
// that a float takes them for the nearest right one.
var wrongTimes = []int64{-1, -2, -Never, math.MinInt64, Never + 1, Never + 2, 1 << 62, math.MaxInt64}

// pair is a span as the chapter's words have it: two whole numbers.
type pair struct{ begin, end int64 }

func (p pair) span() complex128 {
	return complex(float64(p.begin), float64(p.end))
}

// pairs is every span of times.
func pairs() []pair {
	var l []pair
	for i, begin := range times {
		for _, end := range times[i:] {
			l = append(l, pair{begin, end})
		}
	}
	return l
}

// none is numbers that are no spans.
func none() []complex128 {
	nan, inf := math.NaN(), math.Inf(1)
	wrong := []float64{nan, inf, -inf, -1, -0.5, -math.SmallestNonzeroFloat64, 0.5, 2.5, math.SmallestNonzeroFloat64,
		math.Nextafter(3, 4), math.Nextafter(3, 2), 1<<52 - 0.5, Never + 2, 1 << 63, 1 << 64, -1 << 63, math.MaxFloat64, -math.MaxFloat64}
	l := []complex128{3 + 2i, 1 + 0i, complex(Never, Never-1), complex(Never, 0), complex(nan, inf), complex(inf, inf), complex(-inf, inf)}
	for _, x := range wrong {
		l = append(l, complex(x, x), complex(x, 3), complex(x, Never), complex(0, x), complex(1, x))
	}
	return l
}

// P2.1

func TestOf(t *testing.T) {
	if c, is := Of(1, 3); c != 1+3i || !is {
		t.Errorf("Of(1, 3) = %v, %v", c, is)
	}
	for _, begin := range times {
		for _, end := range times {
			c, is := Of(begin, end)
			if end < begin {
				if c != 0 || is {
					t.Errorf("Of(%d, %d) = %v, %v", begin, end, c, is)
				}
				continue
			}
			if !is || real(c) != float64(begin) || imag(c) != float64(end) {
				t.Errorf("Of(%d, %d) = %v, %v", begin, end, c, is)
			}
		}
	}
}

func TestOfWrong(t *testing.T) {
	for _, w := range wrongTimes {
		for _, x := range append(times, wrongTimes...) {
			if c, is := Of(w, x); c != 0 || is {
				t.Errorf("Of(%d, %d) = %v, %v", w, x, c, is)
			}
			if c, is := Of(x, w); c != 0 || is {
				t.Errorf("Of(%d, %d) = %v, %v", x, w, c, is)
			}
		}
	}
}

func TestRight(t *testing.T) {
	for _, p := range pairs() {
		if !Right(p.span()) {
			t.Errorf("%v is no span", p)
		}
	}
	for _, c := range none() {
		if Right(c) {
			t.Errorf("%v is a span", c)
		}
	}
}

func TestMinusZero(t *testing.T) {
	minus := math.Copysign(0, -1)
	for _, c := range []complex128{complex(minus, 3), complex(minus, minus), complex(0, minus), complex(minus, 0)} {
		if !Right(c) || Begin(c) != 0 || End(c) != int64(imag(c)) || !Meet(c, 0) || !Before(c, 4+4i) {
			t.Errorf("%v is not as with +0", c)
		}
		if j, is := Join(c, 5+6i); j != 6i || !is {
			t.Errorf("Join(%v, 5+6i) = %v, %v", c, j, is)
		}
		if m, is := Move(c, 2); m != c+2+2i || !is {
			t.Errorf("Move(%v, 2) = %v, %v", c, m, is)
		}
	}
}

// P2.2

func TestBeginEnd(t *testing.T) {
	for _, p := range pairs() {
		if c := p.span(); Begin(c) != p.begin || End(c) != p.end {
			t.Errorf("%v: from %d to %d", p, Begin(c), End(c))
		}
	}
	for _, c := range none() {
		if Begin(c) != 0 || End(c) != 0 {
			t.Errorf("%v: from %d to %d", c, Begin(c), End(c))
		}
	}
}

// P2.3

func TestBeforeMeet(t *testing.T) {
	if !Before(1+3i, 4+9i) || Before(1+3i, 3+9i) || Before(4+9i, 1+3i) {
		t.Error("Before of the next one, of one that begins at the end, or back")
	}
	if Meet(1+3i, 4+9i) || !Meet(1+3i, 3+9i) || !Meet(3+9i, 1+3i) || !Meet(1+9i, 4+4i) {
		t.Error("Meet of the next one, of one that begins at the end, or of one inside")
	}
	for _, p := range pairs() {
		for _, q := range pairs() {
			a, b := p.span(), q.span()
			if got, want := Before(a, b), p.end < q.begin; got != want {
				t.Fatalf("Before(%v, %v) = %v", p, q, got)
			}
			if got, want := Meet(a, b), p.end >= q.begin && q.end >= p.begin; got != want {
				t.Fatalf("Meet(%v, %v) = %v", p, q, got)
			}
		}
	}
}

func TestBeforeMeetOfNone(t *testing.T) {
	for _, c := range none() {
		for _, p := range pairs() {
			s := p.span()
			if Before(c, s) || Before(s, c) || Meet(c, s) || Meet(s, c) {
				t.Fatalf("%v and the span %v: Before or Meet", c, p)
			}
		}
		for _, d := range none() {
			if Before(c, d) || Meet(c, d) {
				t.Fatalf("%v and %v: Before or Meet", c, d)
			}
		}
	}
}

// P2.4

func TestJoin(t *testing.T) {
	if c, is := Join(5+6i, 1+3i); c != 1+6i || !is {
		t.Errorf("Join(5+6i, 1+3i) = %v, %v", c, is)
	}
	for _, p := range pairs() {
		for _, q := range pairs() {
			want := pair{min(p.begin, q.begin), max(p.end, q.end)}
			if c, is := Join(p.span(), q.span()); c != want.span() || !is {
				t.Fatalf("Join(%v, %v) = %v, %v", p, q, c, is)
			}
		}
	}
	for _, c := range none() {
		for _, d := range []complex128{0, 1 + 3i, complex(0, Never), c} {
			if j, is := Join(c, d); j != 0 || is {
				t.Errorf("Join(%v, %v) = %v, %v", c, d, j, is)
			}
			if j, is := Join(d, c); j != 0 || is {
				t.Errorf("Join(%v, %v) = %v, %v", d, c, j, is)
			}
		}
	}
}

func TestMove(t *testing.T) {
	for _, c := range []struct {
		from complex128
		by   int64
		want complex128
		is   bool
	}{
		{1 + 3i, 0, 1 + 3i, true},
		{1 + 3i, 4, 5 + 7i, true},
		{1 + 3i, -1, 2i, true},
		{1 + 3i, -2, 0, false},
		{1 + 3i, -3, 0, false},
		{1 + 3i, Never - 3, complex(Never-2, Never), true},
		{1 + 3i, Never - 2, 0, false},
		{1 + 3i, Never, 0, false},
		{0, Never, complex(Never, Never), true},
		{0, Never + 1, 0, false},
		{0, -1, 0, false},
		{complex(1, Never), 7, complex(8, Never), true},
		{complex(1, Never), -1, complex(0, Never), true},
		{complex(1, Never), -2, 0, false},
		{complex(1, Never), Never - 1, complex(Never, Never), true},
		{complex(1, Never), Never, 0, false},
		{complex(Never, Never), -Never, complex(0, Never), true},
		{complex(Never, Never), 1, 0, false},
		{complex(Never-1, Never-1), 1 - Never, 0, true},
	} {
		if got, is := Move(c.from, c.by); got != c.want || is != c.is {
			t.Errorf("Move(%v, %d) = %v, %v", c.from, c.by, got, is)
		}
	}
}

func TestMoveAll(t *testing.T) {
	by := append(append([]int64{}, times...), wrongTimes...)
	for _, x := range times {
		by = append(by, -x)
	}
	by = append(by, math.MinInt64+1, math.MaxInt64-1, math.MaxInt64-Never, math.MinInt64+Never, -1<<62)
	for _, p := range pairs() {
		for _, b := range by {
			want, is := moved(p, b)
			if c, ok := Move(p.span(), b); ok != is || c != want {
				t.Fatalf("Move(%v, %d) = %v, %v, not %v, %v", p, b, c, ok, want, is)
			}
		}
	}
	for _, c := range none() {
		for _, b := range by {
			if m, is := Move(c, b); m != 0 || is {
				t.Fatalf("Move(%v, %d) = %v, %v", c, b, m, is)
			}
		}
	}
}

// moved asks how far there is to go, and so makes no sum that wraps round.
func moved(p pair, by int64) (complex128, bool) {
	last := p.end
	if last == Never {
		last = p.begin
	}
	if by > Never-last || by < -p.begin {
		return 0, false
	}
	if p.end == Never {
		return pair{p.begin + by, Never}.span(), true
	}
	return pair{p.begin + by, p.end + by}.span(), true
}

// P2.5

func TestOrder(t *testing.T) {
	l := none()[:12]
	for _, p := range pairs() {
		l = append(l, p.span())
	}
	for _, a := range l {
		if Before(a, a) {
			t.Errorf("%v is before itself", a)
		}
		for _, b := range l {
			if !Before(a, b) {
				continue
			}
			if Before(b, a) {
				t.Errorf("%v and %v are before each other", a, b)
			}
			for _, c := range l {
				if Before(b, c) && !Before(a, c) {
					t.Errorf("%v, %v, %v: the first one is not before the third one", a, b, c)
				}
			}
		}
	}
}
