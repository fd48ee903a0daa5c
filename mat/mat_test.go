package mat

import (
	"math"
	"testing"

	"warpbeam/api"
	"warpbeam/set"
)

// outside is numbers that are no nodes: the nearest ones, some that a row may
// hold as bits, some that a cut to fewer bits would take for others, and the
// farthest ones.
var outside = []int{-1, -2, -31, -32, -64, -1 << 32, math.MinInt, 32, 33, 40, 63, 64, 65, 96, 1 << 32, 1<<32 + 5, math.MaxInt}

// high is the part of a row that is no nodes.
const high set.Set = 0xffffffff00000000

// edges is a graph by its edges, one by one.
func edges(t *testing.T, l ...[2]int) Mat {
	t.Helper()
	var m Mat
	for _, e := range l {
		next, ok := Put(m, e[0], e[1])
		if !ok {
			t.Fatalf("no edge %v", e)
		}
		m = next
	}
	return m
}

// row is a graph of that one row.
func row(a int, s set.Set) Mat {
	var m Mat
	m[a] = s
	return m
}

// samples is graphs of many kinds: none, all edges, with and without those
// from a node to itself, chains, rounds, stars, single edges and ways round of
// one node, and some without a pattern, thin and thick, with numbers that are
// no nodes in their rows.
func samples() []Mat {
	var none, all, most, up, down, round, star, far, self Mat
	for a := range api.Slots {
		all[a] = math.MaxUint64
		most[a] = set.Less(0xffffffff, a)
		up[a] = set.Of(a+1) & 0xffffffff
		down[a] = set.Of(a - 1)
		round[a] = set.Of((a + 1) % api.Slots)
		far[a] = high
	}
	star[7] = set.Less(0xffffffff, 7)
	self[9] = set.Of(9)
	l := []Mat{none, all, most, up, down, round, star, far, self}
	for a := range api.Slots {
		l = append(l, row(a, set.Of((a+5)%api.Slots)), row(a, set.Of(a, 32+a)))
	}
	x := set.Set(54321)
	next := func() set.Set {
		x = x*6364136223846793005 + 1442695040888963407
		return x ^ x>>29
	}
	for k := range 120 {
		var m Mat
		for a := range m {
			m[a] = next()
			for range k % 7 {
				m[a] &= next()
			}
			if k%3 == 0 { // rising edges alone, so that some are free of rounds
				m[a] &= 0xffffffff << (a + 1)
			}
		}
		l = append(l, m)
	}
	return l
}

// edge answers from the words of the chapter alone: both are nodes, and b is
// in m[a].
func edge(m Mat, a, b int) bool {
	return a >= 0 && a <= 31 && b >= 0 && b <= 31 && m[a]>>b&1 == 1
}

// ways tells from each node to each other one whether a way goes: by one edge,
// or by a way to some node and a way from there.
func ways(m Mat) [32][32]bool {
	var w [32][32]bool
	for a := range 32 {
		for b := range 32 {
			w[a][b] = edge(m, a, b)
		}
	}
	for c := range 32 {
		for a := range 32 {
			for b := range 32 {
				w[a][b] = w[a][b] || w[a][c] && w[c][b]
			}
		}
	}
	return w
}

// turned is m with each edge the other way.
func turned(m Mat) Mat {
	var r Mat
	for a := range 32 {
		for b := range 32 {
			if edge(m, a, b) {
				r[b] |= 1 << a
			}
		}
	}
	return r
}

// P3.1

func TestPut(t *testing.T) {
	for _, m := range samples() {
		for a := range 32 {
			for b := range 32 {
				got, ok := Put(m, a, b)
				want := m
				if a != b {
					want[a] |= 1 << b
				}
				if ok != (a != b) || got != want {
					t.Fatalf("Put(%x, %d, %d) = %x, %v", m, a, b, got, ok)
				}
			}
		}
	}
}

func TestPutEdges(t *testing.T) {
	m, ok := Put(Mat{}, 0, 31)
	if !ok || m != (Mat{0: 1 << 31}) {
		t.Errorf("0 to 31: %x, %v", m, ok)
	}
	again, ok := Put(m, 0, 31)
	if !ok || again != m {
		t.Errorf("an edge that is there already: %x, %v", again, ok)
	}
	m, ok = Put(m, 31, 0)
	if !ok || m != (Mat{0: 1 << 31, 31: 1}) {
		t.Errorf("31 to 0, that closes a way round: %x, %v", m, ok)
	}
}

func TestPutWrong(t *testing.T) {
	for _, m := range samples() {
		for _, far := range outside {
			for _, e := range [][2]int{{far, 0}, {far, 31}, {0, far}, {31, far}, {far, far}} {
				if got, ok := Put(m, e[0], e[1]); ok || got != m {
					t.Fatalf("Put(%x, %v) = %x, %v", m, e, got, ok)
				}
			}
		}
		for a := range 32 {
			if got, ok := Put(m, a, a); ok || got != m {
				t.Fatalf("Put(%x, %d, %d) = %x, %v", m, a, a, got, ok)
			}
		}
	}
}

func TestCut(t *testing.T) {
	for _, m := range samples() {
		for a := range 32 {
			want := m
			want[a] &= high
			for b := range want {
				want[b] &^= 1 << a
			}
			if got := Cut(m, a); got != want {
				t.Fatalf("Cut(%x, %d) = %x, not %x", m, a, got, want)
			}
		}
	}
	for _, c := range []struct {
		m    Mat
		a    int
		want Mat
	}{
		{Mat{}, 3, Mat{}},
		{edges(t, [2]int{0, 1}, [2]int{1, 2}, [2]int{2, 0}), 2, edges(t, [2]int{0, 1})},
		{edges(t, [2]int{0, 31}, [2]int{31, 0}, [2]int{5, 6}), 0, edges(t, [2]int{5, 6})},
		{edges(t, [2]int{0, 31}, [2]int{31, 0}, [2]int{5, 6}), 31, edges(t, [2]int{5, 6})},
		{Mat{4: set.Of(4)}, 4, Mat{}},
		{Mat{4: set.Of(4, 36, 63), 5: set.Of(4, 36)}, 4, Mat{4: set.Of(36, 63), 5: set.Of(36)}},
	} {
		if got := Cut(c.m, c.a); got != c.want {
			t.Errorf("Cut(%x, %d) = %x", c.m, c.a, got)
		}
	}
}

func TestCutWrong(t *testing.T) {
	for _, m := range samples() {
		for _, a := range outside {
			if got := Cut(m, a); got != m {
				t.Fatalf("Cut(%x, %d) = %x", m, a, got)
			}
		}
	}
}

func TestHas(t *testing.T) {
	for _, m := range samples() {
		for a := -3; a < 70; a++ {
			for b := -3; b < 70; b++ {
				if got := Has(m, a, b); got != edge(m, a, b) {
					t.Fatalf("Has(%x, %d, %d) = %v", m, a, b, got)
				}
			}
		}
		for _, far := range outside {
			if Has(m, far, 0) || Has(m, 0, far) || Has(m, far, far) {
				t.Fatalf("Has with %d", far)
			}
		}
	}
	if !Has(Mat{6: set.Of(6)}, 6, 6) {
		t.Error("an edge from a node to itself, as a row holds it")
	}
}

// P3.2

func TestOutsIns(t *testing.T) {
	for _, m := range samples() {
		for a := range 32 {
			var outs, ins set.Set
			for b := range 32 {
				if edge(m, a, b) {
					outs |= 1 << b
				}
				if edge(m, b, a) {
					ins |= 1 << b
				}
			}
			if o, i := Outs(m, a), Ins(m, a); o != outs || i != ins {
				t.Fatalf("node %d of %x: %x, %x", a, m, o, i)
			}
		}
		for _, a := range outside {
			if o, i := Outs(m, a), Ins(m, a); o != 0 || i != 0 {
				t.Fatalf("%d, which is no node, of %x: %x, %x", a, m, o, i)
			}
		}
	}
}

func TestOutsInsEdges(t *testing.T) {
	m := edges(t, [2]int{0, 31}, [2]int{31, 7}, [2]int{0, 7})
	for a, want := range map[int][2]set.Set{
		0:  {set.Of(7, 31), 0},
		7:  {0, set.Of(0, 31)},
		31: {set.Of(7), set.Of(0)},
		8:  {0, 0},
	} {
		if o, i := Outs(m, a), Ins(m, a); o != want[0] || i != want[1] {
			t.Errorf("node %d: %x, %x", a, o, i)
		}
	}
	self := Mat{3: set.Of(3, 35)}
	if Outs(self, 3) != set.Of(3) || Ins(self, 3) != set.Of(3) {
		t.Error("an edge from a node to itself, as a row holds it")
	}
}

// P3.3

func TestReachBack(t *testing.T) {
	for _, m := range samples() {
		w := ways(m)
		for a := range 32 {
			var reach, back set.Set
			for b := range 32 {
				if w[a][b] {
					reach |= 1 << b
				}
				if w[b][a] {
					back |= 1 << b
				}
			}
			if r, b := Reach(m, a), Back(m, a); r != reach || b != back {
				t.Fatalf("node %d of %x: %x, %x, not %x, %x", a, m, r, b, reach, back)
			}
		}
		for _, a := range outside {
			if r, b := Reach(m, a), Back(m, a); r != 0 || b != 0 {
				t.Fatalf("%d, which is no node, of %x: %x, %x", a, m, r, b)
			}
		}
	}
}

func TestReachExample(t *testing.T) {
	m := edges(t, [2]int{0, 1}, [2]int{1, 2})
	if got := Reach(m, 0); got != set.Of(1, 2) {
		t.Errorf("Reach of 0 = %v", set.Items(got))
	}
	if got := Back(m, 2); got != set.Of(0, 1) {
		t.Errorf("Back of 2 = %v", set.Items(got))
	}
	if Reach(m, 2) != 0 || Back(m, 0) != 0 || Reach(m, 3) != 0 || Back(m, 3) != 0 {
		t.Error("nodes to which, or from which, no way goes")
	}
}

func TestRound(t *testing.T) {
	m := edges(t, [2]int{0, 1}, [2]int{1, 31}, [2]int{31, 0}, [2]int{4, 0}, [2]int{1, 5})
	for a, want := range map[int][2]set.Set{
		0:  {set.Of(0, 1, 5, 31), set.Of(0, 1, 4, 31)},
		31: {set.Of(0, 1, 5, 31), set.Of(0, 1, 4, 31)},
		4:  {set.Of(0, 1, 5, 31), 0},
		5:  {0, set.Of(0, 1, 4, 31)},
	} {
		if r, b := Reach(m, a), Back(m, a); r != want[0] || b != want[1] {
			t.Errorf("node %d: %x, %x", a, r, b)
		}
	}
	self := Mat{8: set.Of(8), 9: set.Of(8, 41)}
	if Reach(self, 8) != set.Of(8) || Back(self, 8) != set.Of(8, 9) || Reach(self, 9) != set.Of(8) || Back(self, 9) != 0 {
		t.Error("a way round of one node")
	}
	far := Mat{8: set.Of(40), 9: set.Of(8, 41)}
	if Reach(far, 8) != 0 || Reach(far, 9) != set.Of(8) || Back(far, 8) != set.Of(9) || Back(far, 9) != 0 {
		t.Error("numbers that are no nodes")
	}
}

func TestFree(t *testing.T) {
	free := 0
	for _, m := range samples() {
		want := true
		for a, row := range ways(m) {
			want = want && !row[a]
		}
		if want {
			free++
		}
		if got := Free(m); got != want {
			t.Fatalf("Free(%x) = %v", m, got)
		}
	}
	if free < 40 || free > len(samples())-40 {
		t.Errorf("%d of %d samples are free: too few of one kind", free, len(samples()))
	}
	up := samples()[3]
	if !Free(Mat{}) || !Free(up) {
		t.Error("no edges, or a chain of all nodes")
	}
	if m, ok := Put(up, 31, 0); !ok || Free(m) {
		t.Error("a way round through all nodes")
	}
	for a := range 32 {
		if Free(row(a, set.Of(a))) || !Free(row(a, high)) {
			t.Errorf("node %d: a way round of one node, or numbers that are no nodes", a)
		}
	}
}

// P3.4

func TestWays(t *testing.T) {
	for _, m := range samples() {
		back := turned(m)
		for a := range 32 {
			r := Reach(m, a)
			for _, b := range set.Items(r) {
				if more := Reach(m, b); more&^r != 0 {
					t.Fatalf("%x: %d reaches %d, but not all that this one reaches: %x, %x", m, a, b, r, more)
				}
			}
			for b := range 32 {
				if set.Has(r, b) != set.Has(Back(m, b), a) {
					t.Fatalf("%x: Reach and Back differ on %d and %d", m, a, b)
				}
			}
			if Back(m, a) != Reach(back, a) || r != Back(back, a) {
				t.Fatalf("%x: Back of %d is not Reach the other way", m, a)
			}
		}
	}
}
