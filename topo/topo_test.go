package topo

import (
	"math"
	"slices"
	"testing"

	"warpbeam/mat"
	"warpbeam/set"
)

// outside is numbers that are no nodes and no places: the nearest ones, some
// that a set may hold, some that a cut to fewer bits would take for others,
// and the farthest ones.
var outside = []int{-1, -2, -31, -32, -64, -1 << 32, math.MinInt, 32, 33, 40, 63, 64, 65, 96, 1 << 32, 1<<32 + 5, math.MaxInt}

// high is the part of a row of a graph that is no nodes.
const high set.Set = 0xffffffff00000000

// dice is a row of numbers without a pattern, the same ones in every run.
type dice uint64

func (d *dice) below(n int) int {
	*d = *d*6364136223846793005 + 1442695040888963407
	return int(uint64(*d)>>33) % n
}

// mixed is an order without a pattern.
func mixed(d *dice) Order {
	o := New()
	for a := 31; a > 0; a-- {
		b := d.below(a + 1)
		o[a], o[b] = o[b], o[a]
	}
	return o
}

// risen is a graph without a pattern that o sorts: of all edges that rise, each
// one in n, and numbers that are no nodes in its rows.
func risen(d *dice, o Order, n int) mat.Mat {
	var m mat.Mat
	for a := range m {
		for b := range m {
			if o[a] < o[b] && d.below(n) == 0 {
				m[a] |= 1 << b
			}
		}
		m[a] |= set.Set(d.below(1<<30)) << 32
	}
	return m
}

// edge answers from the words of the chapters alone: b is in m[a].
func edge(m mat.Mat, a, b int) bool {
	return m[a]>>b&1 == 1
}

// right answers from the words alone: each place is one node's.
func right(o Order) bool {
	for p := range 32 {
		owners := 0
		for _, q := range o {
			if q == p {
				owners++
			}
		}
		if owners != 1 {
			return false
		}
	}
	return true
}

func sorted(m mat.Mat, o Order) bool {
	if !right(o) {
		return false
	}
	for a := range 32 {
		for b := range 32 {
			if edge(m, a, b) && o[a] >= o[b] {
				return false
			}
		}
	}
	return true
}

// ways tells from each node to which ones a way goes that meets only nodes of
// may, its ends too.
func ways(m mat.Mat, may set.Set) mat.Mat {
	var w mat.Mat
	for a := range 32 {
		if may>>a&1 == 1 {
			w[a] = m[a] & may &^ high
		}
	}
	for c := range 32 {
		for a := range 32 {
			if edge(w, a, c) {
				w[a] |= w[c]
			}
		}
	}
	return w
}

// circular tells whether a way goes round.
func circular(m mat.Mat) bool {
	w := ways(m, math.MaxUint64)
	for a := range 32 {
		if edge(w, a, a) {
			return true
		}
	}
	return false
}

// where is all nodes whose places are such.
func where(o Order, such func(int) bool) set.Set {
	var s set.Set
	for a, p := range o {
		if such(p) {
			s |= 1 << a
		}
	}
	return s
}

// insert answers from the words of P4.2, one after the other.
func insert(m mat.Mat, o Order, a, b int) (mat.Mat, Order, bool) {
	if !sorted(m, o) || a < 0 || a > 31 || b < 0 || b > 31 || a == b {
		return m, o, false
	}
	put := m
	put[a] |= 1 << b
	if o[a] < o[b] {
		return put, o, true
	}
	low := ways(m, where(o, func(p int) bool { return p <= o[a] }))
	top := ways(m, where(o, func(p int) bool { return p >= o[b] }))
	fore, hind := []int{b}, []int{a}
	for c := range 32 {
		if edge(low, b, c) {
			fore = append(fore, c)
		}
		if edge(top, c, a) {
			hind = append(hind, c)
		}
	}
	if slices.Contains(fore, a) {
		return m, o, false
	}
	stood := func(c, d int) int { return o[c] - o[d] }
	slices.SortFunc(fore, stood)
	slices.SortFunc(hind, stood)
	row := append(hind, fore...)
	var had []int
	for _, c := range row {
		had = append(had, o[c])
	}
	slices.Sort(had)
	told := o
	for i, c := range row {
		told[c] = had[i]
	}
	return put, told, true
}

// moved is an order of New's with some nodes at other places.
func moved(l ...[2]int) Order {
	o := New()
	for _, e := range l {
		o[e[0]] = e[1]
	}
	return o
}

// wrong is orders that are not Right: a place twice, below 0, above 31.
func wrong() []Order {
	l := []Order{{}, moved([2]int{3, 4}), moved([2]int{0, 31}), moved([2]int{31, 0}), moved([2]int{30, 31})}
	var same, far, shifted Order
	for a := range 32 {
		same[a], far[a], shifted[a] = 31, 32+a, a+1
	}
	l = append(l, same, far, shifted)
	for _, p := range outside {
		for _, a := range []int{0, 3, 31} {
			l = append(l, moved([2]int{a, p}))
		}
	}
	return l
}

// P4.1

func TestNew(t *testing.T) {
	o := New()
	for a := range 32 {
		if o[a] != a {
			t.Errorf("the place of %d is %d", a, o[a])
		}
	}
	if !Right(o) || !Sorted(mat.Mat{}, o) {
		t.Error("New is not Right, or not Sorted without edges")
	}
}

func TestRight(t *testing.T) {
	d := dice(11)
	for range 200 {
		o := mixed(&d)
		if !Right(o) {
			t.Fatalf("Right(%v) is false", o)
		}
		a, b := d.below(32), d.below(32)
		o[a] = o[b]
		if got := Right(o); got != (a == b) {
			t.Fatalf("Right(%v) = %v", o, got)
		}
	}
	if !Right(moved([2]int{0, 31}, [2]int{31, 0})) {
		t.Error("0 and 31, each at the other one's place")
	}
}

func TestRightWrong(t *testing.T) {
	for _, o := range wrong() {
		if Right(o) {
			t.Errorf("Right(%v)", o)
		}
	}
}

func TestSorted(t *testing.T) {
	d := dice(12)
	rises := 0
	for k := range 400 {
		o := mixed(&d)
		m := risen(&d, o, 1+k%9)
		if !Sorted(m, o) {
			t.Fatalf("Sorted(%x, %v) is false", m, o)
		}
		a, b := d.below(32), d.below(32)
		m[a] |= 1 << b
		if o[a] < o[b] {
			rises++
		}
		if got := Sorted(m, o); got != (o[a] < o[b]) {
			t.Fatalf("with %d to %d: Sorted(%x, %v) = %v", a, b, m, o, got)
		}
	}
	if rises < 100 || rises > 300 {
		t.Errorf("%d of 400 edges rise: too few of one kind", rises)
	}
}

func TestSortedEdges(t *testing.T) {
	turned := moved([2]int{0, 31}, [2]int{31, 0})
	for _, c := range []struct {
		name string
		m    mat.Mat
		o    Order
		want bool
	}{
		{"no edges", mat.Mat{}, New(), true},
		{"no edges, another order", mat.Mat{}, turned, true},
		{"0 to 31", mat.Mat{0: 1 << 31}, New(), true},
		{"0 to 31, turned", mat.Mat{0: 1 << 31}, turned, false},
		{"31 to 0", mat.Mat{31: 1}, New(), false},
		{"31 to 0, turned", mat.Mat{31: 1}, turned, true},
		{"30 to 31", mat.Mat{30: 1 << 31}, New(), true},
		{"31 to 30", mat.Mat{31: 1 << 30}, New(), false},
		{"a way round of two", mat.Mat{3: 1 << 4, 4: 1 << 3}, New(), false},
		{"a way round of one", mat.Mat{5: 1 << 5}, New(), false},
		{"numbers that are no nodes", mat.Mat{0: high, 5: high, 31: high}, New(), true},
		{"numbers that are no nodes, and an edge down", mat.Mat{5: high | 1<<4}, New(), false},
	} {
		if got := Sorted(c.m, c.o); got != c.want {
			t.Errorf("%s: %v", c.name, got)
		}
	}
}

func TestSortedWrong(t *testing.T) {
	for _, o := range wrong() {
		if Sorted(mat.Mat{}, o) || Sorted(mat.Mat{7: 1 << 8}, o) {
			t.Errorf("Sorted by %v", o)
		}
	}
}

func TestRow(t *testing.T) {
	d := dice(13)
	for range 200 {
		o := mixed(&d)
		row := Row(o)
		if len(row) != 32 {
			t.Fatalf("Row(%v) = %v", o, row)
		}
		for p, a := range row {
			if a < 0 || a > 31 || o[a] != p {
				t.Fatalf("Row(%v) = %v", o, row)
			}
		}
	}
	row := Row(moved([2]int{0, 31}, [2]int{31, 2}, [2]int{2, 0}))
	if row[0] != 2 || row[1] != 1 || row[2] != 31 || row[31] != 0 {
		t.Errorf("2, 1, 31 and, at the end, 0: %v", row)
	}
}

func TestRowWrong(t *testing.T) {
	for _, o := range wrong() {
		if row := Row(o); len(row) != 0 {
			t.Errorf("Row(%v) = %v", o, row)
		}
	}
}

func TestRowIsNew(t *testing.T) {
	o := New()
	Row(o)[4] = 9
	if row := Row(o); row[4] != 4 || o != New() {
		t.Errorf("behind a change of the one before: %v, %v", row, o)
	}
}

// P4.2

// step is an edge to insert, and what is to come of it: the first nodes of the
// row behind it.
type step struct {
	a, b int
	is   bool
	row  []int
}

// walk inserts the edges one behind the other.
func walk(t *testing.T, steps []step) (mat.Mat, Order) {
	t.Helper()
	m, o := mat.Mat{}, New()
	for i, s := range steps {
		n, p, is := Insert(m, o, s.a, s.b)
		want := m
		if s.is {
			want[s.a] |= 1 << s.b
		}
		if is != s.is || n != want || !slices.Equal(Row(p)[:len(s.row)], s.row) {
			t.Errorf("number %d, %d to %d: %v, %x, %v", i, s.a, s.b, is, n, Row(p))
		}
		m, o = n, p
	}
	return m, o
}

func TestInsertExample(t *testing.T) {
	m, o, is := Insert(mat.Mat{}, New(), 5, 2)
	if !is || m != (mat.Mat{5: 1 << 2}) || o != moved([2]int{5, 2}, [2]int{2, 5}) {
		t.Errorf("5 to 2: %x, %v, %v", m, o, is)
	}
}

func TestInsertOneBehindTheOther(t *testing.T) {
	walk(t, []step{
		{5, 4, true, []int{0, 1, 2, 3, 5, 4, 6}},
		{4, 3, true, []int{0, 1, 2, 5, 4, 3, 6}},
		{3, 2, true, []int{0, 1, 5, 4, 3, 2, 6}},
		{2, 1, true, []int{0, 5, 4, 3, 2, 1, 6}},
		{1, 0, true, []int{5, 4, 3, 2, 1, 0, 6}},
		{0, 5, false, []int{5, 4, 3, 2, 1, 0, 6}},
		{5, 0, true, []int{5, 4, 3, 2, 1, 0, 6}},
		{1, 0, true, []int{5, 4, 3, 2, 1, 0, 6}},
	})
	// Who is in neither Fore nor Hind (3, 4) stays; what is beyond the two
	// places does not count (0 to 2, 7 to 9).
	walk(t, []step{
		{0, 2, true, []int{0, 1, 2, 3, 4, 5, 6, 7, 8, 9}},
		{7, 9, true, []int{0, 1, 2, 3, 4, 5, 6, 7, 8, 9}},
		{2, 5, true, []int{0, 1, 2, 3, 4, 5, 6, 7, 8, 9}},
		{6, 7, true, []int{0, 1, 2, 3, 4, 5, 6, 7, 8, 9}},
		{5, 8, true, []int{0, 1, 2, 3, 4, 5, 6, 7, 8, 9}},
		{7, 2, true, []int{0, 1, 6, 3, 4, 7, 2, 5, 8, 9}},
	})
}

func TestInsertEnds(t *testing.T) {
	m, o, is := Insert(mat.Mat{}, New(), 0, 31)
	if !is || m != (mat.Mat{0: 1 << 31}) || o != New() {
		t.Errorf("0 to 31: %x, %v, %v", m, o, is)
	}
	m, o, is = Insert(mat.Mat{}, New(), 31, 0)
	if !is || m != (mat.Mat{31: 1}) || o != moved([2]int{31, 0}, [2]int{0, 31}) {
		t.Errorf("31 to 0: %x, %v, %v", m, o, is)
	}
	n, p, is := Insert(m, o, 31, 0)
	if !is || n != m || p != o {
		t.Errorf("31 to 0, that is there already: %x, %v, %v", n, p, is)
	}
	if n, p, is = Insert(m, o, 0, 31); is || n != m || p != o {
		t.Errorf("0 to 31, a way round of two: %x, %v, %v", n, p, is)
	}
}

func TestInsertWayRound(t *testing.T) {
	var chain mat.Mat
	for a := range 31 {
		chain[a] = 1 << (a + 1)
	}
	for a := range 32 {
		for b := range a {
			if n, p, is := Insert(chain, New(), a, b); is || n != chain || p != New() {
				t.Fatalf("%d to %d, against the chain: %x, %v, %v", a, b, n, p, is)
			}
		}
	}
	for a := range 32 {
		for b := a + 1; b < 32; b++ {
			want := chain
			want[a] |= 1 << b
			if n, p, is := Insert(chain, New(), a, b); !is || n != want || p != New() {
				t.Fatalf("%d to %d, along the chain: %x, %v, %v", a, b, n, p, is)
			}
		}
	}
}

// nothing fails unless Insert gives back what it got.
func nothing(t *testing.T, m mat.Mat, o Order, a, b int) {
	t.Helper()
	if n, p, is := Insert(m, o, a, b); is || n != m || p != o {
		t.Fatalf("Insert(%x, %v, %d, %d) = %x, %v, %v", m, o, a, b, n, p, is)
	}
}

func TestInsertWrongNodes(t *testing.T) {
	d := dice(14)
	for range 20 {
		o := mixed(&d)
		m := risen(&d, o, 4)
		for _, far := range outside {
			for _, e := range [][2]int{{far, 0}, {far, 31}, {0, far}, {31, far}, {far, far}} {
				nothing(t, m, o, e[0], e[1])
			}
		}
		for a := range 32 {
			nothing(t, m, o, a, a)
		}
	}
}

func TestInsertWrongOrder(t *testing.T) {
	for _, o := range wrong() {
		for _, e := range [][2]int{{0, 1}, {1, 0}, {5, 9}, {9, 5}, {0, 31}, {31, 0}, {3, 3}, {-1, 4}, {4, 32}} {
			nothing(t, mat.Mat{}, o, e[0], e[1])
			nothing(t, mat.Mat{5: 1 << 9, 12: high}, o, e[0], e[1])
		}
	}
}

func TestInsertUnsorted(t *testing.T) {
	for _, m := range []mat.Mat{
		{9: 1 << 5},                    // an edge down
		{31: 1},                        // from the last one to the first one
		{3: 1 << 4, 4: 1 << 3},         // a way round of two
		{0: 1 << 1, 1: 1 << 31, 31: 1}, // a long one
		{20: 1 << 20, 7: high},         // one of one node
	} {
		for a := range 32 {
			for b := range 32 {
				nothing(t, m, New(), a, b)
			}
		}
	}
}

func TestInsertAll(t *testing.T) {
	d := dice(15)
	for k := range 60 {
		o := mixed(&d)
		m := risen(&d, o, 1+k)
		for a := -1; a < 33; a++ {
			for b := -1; b < 33; b++ {
				n, p, is := Insert(m, o, a, b)
				if wn, wp, wis := insert(m, o, a, b); n != wn || p != wp || is != wis {
					t.Fatalf("Insert(%x, %v, %d, %d) = %x, %v, %v, not %x, %v, %v", m, o, a, b, n, p, is, wn, wp, wis)
				}
			}
		}
	}
}

// P4.3

// runs hands check every step of many rows of inserts: among all nodes, and
// among few of them, that stand near and far; from New, and from other orders.
func runs(check func(m mat.Mat, o Order, a, b int)) {
	d := dice(16)
	all := Row(New())
	for k := range 150 {
		among := [][]int{all, {0, 7, 13, 30, 31}, {0, 1, 2, 3, 4, 5, 6, 7}, {9, 31}}[k%4]
		m, o := mat.Mat{}, New()
		if k%3 == 0 {
			o = mixed(&d)
		}
		for range 12 * len(among) {
			a, b := among[d.below(len(among))], among[d.below(len(among))]
			if d.below(40) == 0 {
				a = outside[d.below(len(outside))]
			}
			check(m, o, a, b)
			m, o, _ = Insert(m, o, a, b)
		}
	}
}

func TestStaysSorted(t *testing.T) {
	told, refused, turned := 0, 0, 0
	runs(func(m mat.Mat, o Order, a, b int) {
		n, p, is := Insert(m, o, a, b)
		if !sorted(n, p) || !Sorted(n, p) {
			t.Fatalf("Insert(%x, %v, %d, %d) is not sorted: %x, %v", m, o, a, b, n, p)
		}
		put, may := mat.Put(m, a, b)
		if want := may && !circular(put); is != want {
			t.Fatalf("Insert(%x, %v, %d, %d): %v", m, o, a, b, is)
		}
		if is && n != put || !is && (n != m || p != o) {
			t.Fatalf("Insert(%x, %v, %d, %d) = %x, %v, %v", m, o, a, b, n, p, is)
		}
		switch {
		case !is:
			refused++
		case p == o:
			told++
		default:
			turned++
		}
	})
	if told < 1000 || refused < 1000 || turned < 1000 {
		t.Errorf("too few of one kind: %d as they stood, %d refused, %d turned", told, refused, turned)
	}
}

func TestOthersKeepTheirPlaces(t *testing.T) {
	runs(func(m mat.Mat, o Order, a, b int) {
		_, p, _ := Insert(m, o, a, b)
		for c := range 32 {
			if p[c] != o[c] && (o[c] < o[b] || o[c] > o[a]) {
				t.Fatalf("Insert(%x, %v, %d, %d) moves %d: %v", m, o, a, b, c, p)
			}
		}
	})
}

func TestRunsFollowTheWords(t *testing.T) {
	runs(func(m mat.Mat, o Order, a, b int) {
		n, p, is := Insert(m, o, a, b)
		if wn, wp, wis := insert(m, o, a, b); n != wn || p != wp || is != wis {
			t.Fatalf("Insert(%x, %v, %d, %d) = %x, %v, %v, not %x, %v, %v", m, o, a, b, n, p, is, wn, wp, wis)
		}
	})
}
