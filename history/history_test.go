package history

import (
	"math"
	"slices"
	"strconv"
	"strings"
	"testing"

	"warpbeam/api"
	"warpbeam/graph"
	"warpbeam/mat"
	"warpbeam/set"
	"warpbeam/span"
	"warpbeam/txn"
	"warpbeam/value"
)

// far is numbers that are none of any kind that the tests make, some of them
// such that a cut to fewer bits would take for one.
var far = []int{-1, -2, -31, -32, -63, -64, 65, 96, 127, 128, 256, -1 << 32, 1 - 1<<32, 1 << 32, 1<<32 + 1, 1<<32 + 31, 1<<32 + 63, math.MinInt, math.MinInt + 1, math.MaxInt - 1, math.MaxInt}

var rightValues = []value.Value{
	{Kind: value.Nil}, {Kind: value.Int}, {Kind: value.Int, N: 1}, {Kind: value.Int, N: -1},
	{Kind: value.Int, N: 64}, {Kind: value.Int, N: math.MaxInt64}, {Kind: value.Int, N: math.MinInt64},
	{Kind: value.Ref}, {Kind: value.Ref, N: 1}, {Kind: value.Ref, N: 63},
}

var wrongValues = []value.Value{
	{Kind: value.Nil, N: 1}, {Kind: value.Nil, N: -1}, {Kind: value.Ref, N: -1}, {Kind: value.Ref, N: 64},
	{Kind: value.Ref, N: 1 << 32}, {Kind: value.Ref, N: math.MinInt64}, {Kind: 3}, {Kind: -1, N: 1},
	{Kind: 1 << 32}, {Kind: 1<<32 + 1, N: 1}, {Kind: math.MinInt}, {Kind: math.MaxInt, N: 2},
}

// idle is what stands behind a row in its memory.
var idle = Event{Kind: Write, Id: 1, X: 3, V: value.Value{Kind: value.Int, N: 77}}

func num(n int64) value.Value { return value.Value{Kind: value.Int, N: n} }

// row is the events of a text: b1 (Begin 1), r1.0=5 (Read, by 1, of variable 0,
// that has 5), w1.0=5, c1, a1. A value that is left out is 0.
func row(text string) []Event {
	h := []Event{}
	for _, word := range strings.Fields(text) {
		e := Event{Kind: strings.Index("brwca", word[:1])}
		id, what, acts := strings.Cut(word[1:], ".")
		e.Id, _ = strconv.Atoi(id)
		if acts {
			x, n, _ := strings.Cut(what, "=")
			e.X, _ = strconv.Atoi(x)
			e.V.Kind = value.Int
			e.V.N, _ = strconv.ParseInt(n, 10, 64)
		}
		h = append(h, e)
	}
	return h
}

// begins is the Begins of that many.
func begins(many int) []Event {
	h := []Event{}
	for i := range many {
		h = append(h, Event{Kind: Begin, Id: i + 1})
	}
	return h
}

// dice is a row of numbers without a pattern, the same ones in every run.
type dice uint64

func (d *dice) below(n int) int {
	*d = *d*6364136223846793005 + 1442695040888963407
	return int(uint64(*d)>>33) % n
}

func one[T any](d *dice, l []T) T { return l[d.below(len(l))] }

// Answers from the chapter's words, one after the other.

func wantRight(h []Event) bool {
	if len(h) > 2000 {
		return false
	}
	began := 0
	for i, e := range h {
		acts := e.Kind == Read || e.Kind == Write
		switch {
		case e.Kind < 0 || e.Kind > 4:
			return false
		case e.Kind == Begin:
			began++
			if began > 32 || e.Id != began {
				return false
			}
		case where(h[:i], e.Id, Begin) < 0 || where(h[:i], e.Id, Commit) >= 0 || where(h[:i], e.Id, Abort) >= 0:
			return false
		}
		if acts && (e.X < 0 || e.X > 63 || !value.Right(e.V)) {
			return false
		}
		if !acts && (e.X != 0 || e.V.Kind != value.Nil || e.V.N != 0) {
			return false
		}
	}
	return true
}

// where is the number of the first event of that Id and Kind, -1 if there is
// none.
func where(h []Event, id, kind int) int {
	return slices.IndexFunc(h, func(e Event) bool { return e.Id == id && e.Kind == kind })
}

// ended is the number of the event with which that one is over, or -1.
func ended(h []Event, id int) int {
	return max(where(h, id, Commit), where(h, id, Abort))
}

// wrote tells whether that one has a Write of x.
func wrote(h []Event, id, x int) bool {
	return slices.ContainsFunc(h, func(e Event) bool { return e.Kind == Write && e.Id == id && e.X == x })
}

// found is the number of the Read of x that the entry of that one has, or -1.
func found(h []Event, id, x int) int {
	for n, e := range h {
		if e.Kind == Read && e.Id == id && e.X == x && !wrote(h[:n], id, x) {
			return n
		}
	}
	return -1
}

// touched is all variables of which the row has a Read or a Write, rising.
func touched(h []Event) []int {
	var l []int
	for x := range 64 {
		if slices.ContainsFunc(h, func(e Event) bool { return (e.Kind == Read || e.Kind == Write) && e.X == x }) {
			l = append(l, x)
		}
	}
	return l
}

func wantIds(h []Event) []int {
	var ids []int
	for _, e := range h {
		if e.Kind == Begin {
			ids = append(ids, e.Id)
		}
	}
	return ids
}

func wantSpans(h []Event) []complex128 {
	var l []complex128
	for _, id := range wantIds(h) {
		end := float64(ended(h, id))
		if end < 0 {
			end = 1 << 53
		}
		l = append(l, complex(float64(where(h, id, Begin)), end))
	}
	return l
}

func wantEntries(h []Event) []graph.Entry {
	var l []graph.Entry
	xs := touched(h)
	for _, id := range wantIds(h) {
		e := graph.Entry{Id: id, Committed: where(h, id, Commit) >= 0, Over: ended(h, id) >= 0}
		for _, x := range xs {
			if n := found(h, id, x); n >= 0 {
				e.Reads = append(e.Reads, txn.Step{X: x, V: h[n].V})
			}
			for n := len(h) - 1; n >= 0 && e.Committed; n-- {
				if h[n].Kind == Write && h[n].Id == id && h[n].X == x {
					e.Writes = append(e.Writes, txn.Step{X: x, V: h[n].V, Write: true})
					break
				}
			}
		}
		l = append(l, e)
	}
	return l
}

// wantKinds is of each kind of edges, in the chapter's order, all from one of
// two unlike numbers to the other one.
func wantKinds(h []Event) [4]map[[2]int]bool {
	kinds := [4]map[[2]int]bool{{}, {}, {}, {}}
	put := func(kind, a, b int) {
		if a != b {
			kinds[kind][[2]int{a - 1, b - 1}] = true
		}
	}
	ids, xs := wantIds(h), touched(h)
	for _, a := range ids {
		for _, b := range ids {
			if end := ended(h, a); end >= 0 && end < where(h, b, Begin) {
				put(0, a, b)
			}
			done, next := where(h, a, Commit), where(h, b, Commit)
			for _, x := range xs {
				if done >= 0 && next > done && wrote(h, a, x) && wrote(h, b, x) {
					put(2, a, b)
				}
			}
		}
		for _, x := range xs {
			n := found(h, a, x)
			if n < 0 {
				continue
			}
			for i := n - 1; i >= 0; i-- {
				if h[i].Kind == Commit && wrote(h, h[i].Id, x) {
					put(1, h[i].Id, a)
					break
				}
			}
			for i := n + 1; i < len(h); i++ {
				if h[i].Kind == Commit && wrote(h, h[i].Id, x) {
					put(3, a, h[i].Id)
				}
			}
		}
	}
	return kinds
}

// edges is the graph of these.
func edges(kinds ...map[[2]int]bool) mat.Mat {
	var m mat.Mat
	for _, kind := range kinds {
		for edge := range kind {
			m[edge[0]] |= 1 << edge[1]
		}
	}
	return m
}

func wantGraph(h []Event) mat.Mat {
	kinds := wantKinds(h)
	return edges(kinds[:]...)
}

func sameEntry(a, b graph.Entry) bool {
	return a.Id == b.Id && a.Committed == b.Committed && a.Over == b.Over && slices.Equal(a.Reads, b.Reads) && slices.Equal(a.Writes, b.Writes)
}

// whole is all of the memory that a list stands in, what is behind it too.
func whole[T any](l []T) []T { return l[:cap(l)] }

// scribble writes over all of a list's memory.
func scribble[T any](l []T, with T) {
	for i := range whole(l) {
		whole(l)[i] = with
	}
}

func scribbleEntries(l []graph.Entry) {
	for _, e := range whole(l) {
		scribble(e.Reads, txn.Step{X: 88})
		scribble(e.Writes, txn.Step{X: 89})
	}
	scribble(l, graph.Entry{Id: 90})
}

// roomy is h in new memory, that goes on behind it.
func roomy(h []Event) []Event {
	out := append(make([]Event, 0, len(h)+3), h...)
	copy(whole(out)[len(h):], []Event{idle, idle, idle})
	return out
}

// answers checks all calls, twice, since nothing may be kept: the answers are
// written over ahead of the second time; and that h is as it was.
func answers(t *testing.T, h []Event, right bool, ids []int, spans []complex128, entries []graph.Entry, m mat.Mat) {
	t.Helper()
	h = roomy(h)
	was := slices.Clone(whole(h))
	for range 2 {
		if is := Right(h); is != right {
			t.Fatalf("Right(%v): %v", h, is)
		}
		gotIds := Ids(h)
		if !slices.Equal(gotIds, ids) {
			t.Fatalf("Ids(%v): %v, not %v", h, gotIds, ids)
		}
		gotSpans := Spans(h)
		if !slices.Equal(gotSpans, spans) {
			t.Fatalf("Spans(%v): %v, not %v", h, gotSpans, spans)
		}
		got := Entries(h)
		if !slices.EqualFunc(got, entries, sameEntry) {
			t.Fatalf("Entries(%v): %v, not %v", h, got, entries)
		}
		if g, is := Graph(h); g != m || is != right {
			t.Fatalf("Graph(%v): %v, %v, not %v, %v", h, g, is, m, right)
		}
		scribble(gotIds, 91)
		scribble(gotSpans, 92)
		scribbleEntries(got)
		if !slices.Equal(whole(h), was) {
			t.Fatalf("what was handed in: %v, not %v", whole(h), was)
		}
	}
}

// nothing checks that h is not Right, and that nothing comes of it.
func nothing(t *testing.T, h []Event) {
	t.Helper()
	answers(t, h, false, nil, nil, nil, mat.Mat{})
}

// asTold checks all calls against the chapter's words. It tells whether h is
// Right.
func asTold(t *testing.T, h []Event) bool {
	t.Helper()
	if !wantRight(h) {
		nothing(t, h)
		return false
	}
	answers(t, h, true, wantIds(h), wantSpans(h), wantEntries(h), wantGraph(h))
	return true
}

// right checks a row that has to be Right.
func right(t *testing.T, h []Event) {
	t.Helper()
	if !asTold(t, h) {
		t.Fatalf("%v is not taken as Right by the test", h)
	}
}

// wrong checks a row that may not be Right.
func wrong(t *testing.T, h []Event) {
	t.Helper()
	if asTold(t, h) {
		t.Fatalf("%v is taken as Right by the test", h)
	}
}

// behind is h, and e.
func behind(h []Event, e ...Event) []Event { return slices.Concat(h, e) }

// The chapter's example.

func TestExample(t *testing.T) {
	h := []Event{
		{Kind: Begin, Id: 1},
		{Kind: Begin, Id: 2},
		{Kind: Read, Id: 1, X: 0, V: num(0)},
		{Kind: Write, Id: 2, X: 0, V: num(1)},
		{Kind: Commit, Id: 2},
	}
	right(t, h)
	if m, is := Graph(h); !is || m != (mat.Mat{0: set.Of(1)}) {
		t.Errorf("Graph: %v, %v", m, is)
	}
	if !slices.Equal(h, row("b1 b2 r1.0 w2.0=1 c2")) {
		t.Errorf("the text of it: %v", row("b1 b2 r1.0 w2.0=1 c2"))
	}
}

// P11.1.

func TestKinds(t *testing.T) {
	if kinds := [...]int{Begin, Read, Write, Commit, Abort}; kinds != [...]int{0, 1, 2, 3, 4} {
		t.Errorf("Kinds: %v", kinds)
	}
	for _, kind := range append([]int{5, 6, 7, 8, 31, 32, 1<<32 + 3, 1<<32 + 4}, far...) {
		for _, id := range []int{0, 1, 2, 3} {
			wrong(t, []Event{{Kind: kind, Id: id}})
			wrong(t, behind(row("b1"), Event{Kind: kind, Id: id}))
			wrong(t, behind(row("b1"), Event{Kind: kind, Id: id, X: 1, V: num(1)}))
			wrong(t, behind(row("b1 r1.0 c1 b2"), Event{Kind: kind, Id: id}))
		}
		wrong(t, slices.Insert(row("b1 r1.0 c1"), 2, Event{Kind: kind, Id: 1}))
	}
}

func TestOfNoEvents(t *testing.T) {
	right(t, nil)
	right(t, []Event{})
	right(t, make([]Event, 0, 5))
	if !Right(nil) {
		t.Error("no events are not Right")
	}
}

// long is a row of so many events, of one transaction, or of 32.
func long(many, ids int) []Event {
	h := begins(ids)
	for n := 0; len(h) < many; n++ {
		h = append(h, Event{Kind: Read + n/7%2, Id: 1 + n%ids, X: n * 5 % 64, V: num(int64(n))})
	}
	return h
}

func TestHowLong(t *testing.T) {
	for _, ids := range []int{1, 2, 32} {
		for _, many := range []int{1998, 1999, 2000} {
			h := long(many, ids)
			right(t, h)
			if !Right(h) {
				t.Errorf("%d events of %d are not Right", many, ids)
			}
			h[many-1] = Event{Kind: Commit, Id: ids}
			right(t, h)
		}
		for _, many := range []int{2001, 2002, 3000, 4096, 1<<16 + 5} {
			h := long(many, ids)
			wrong(t, h)
			if !Right(h[:2000]) {
				t.Errorf("the first 2000 of %d events of %d are not Right", many, ids)
			}
			h[many-1] = Event{Kind: Commit, Id: ids}
			wrong(t, h)
		}
	}
}

func TestHowManyBegin(t *testing.T) {
	for many := range 33 {
		right(t, begins(many))
		if ids := Ids(begins(many)); len(ids) != many {
			t.Errorf("%d began: %v", many, ids)
		}
	}
	for many := 33; many < 70; many++ {
		wrong(t, begins(many))
	}
	var h []Event
	for id := 1; id <= 33; id++ { // that they are over makes no room
		if is := asTold(t, behind(h, Event{Kind: Begin, Id: id})); is != (id <= 32) {
			t.Errorf("Begin %d behind %d that are over: %v", id, id-1, is)
		}
		h = append(h, Event{Kind: Begin, Id: id}, Event{Kind: Commit + id%2, Id: id})
	}
	wrong(t, h)
	right(t, behind(begins(32), Event{Kind: Commit, Id: 32}))
	wrong(t, behind(begins(32), Event{Kind: Commit, Id: 33}))
}

func TestIdsOfBegins(t *testing.T) {
	for many := range 33 {
		for _, id := range append([]int{0, 1, many - 1, many, many + 1, many + 2, 32, 33, 34}, far...) {
			h := behind(begins(many), Event{Kind: Begin, Id: id})
			if is := asTold(t, h); is != (id == many+1 && id <= 32) {
				t.Errorf("Begin %d behind %d Begins: %v", id, many, is)
			}
		}
	}
	wrong(t, row("b2 b1"))
	wrong(t, row("b1 b3 b2"))
	wrong(t, row("b1 c1 b1"))
	wrong(t, row("b1 b1"))
	wrong(t, row("b1 b3"))
	wrong(t, row("b0"))
	wrong(t, row("b0 b1"))
	right(t, row("b1 c1 b2 a2 b3"))
}

// What is said of one that never began, began behind it, or is over.
func TestIdsOfOthers(t *testing.T) {
	for _, what := range []string{"r1.0", "w1.0", "c1", "a1"} {
		e := row(what)[0]
		right(t, behind(row("b1"), e))
		wrong(t, []Event{e})
		wrong(t, behind([]Event{e}, row("b1")...))
		wrong(t, behind(row("b1 c1"), e))
		wrong(t, behind(row("b1 a1"), e))
		wrong(t, behind(row("b1 c1 b2 r2.0"), e))
		wrong(t, behind(row("b1 a1 b2 r2.0"), e))
		right(t, behind(row("b1 b2 c2"), e))
		right(t, behind(row("b1 b2 a2 b3"), e))
		for many := range 33 {
			for _, id := range append([]int{0, many + 1, many + 2, 33, 64}, far...) {
				if id >= 1 && id <= many {
					continue
				}
				e.Id = id
				wrong(t, behind(begins(many), e))
				if id == many+1 && many < 32 {
					wrong(t, behind(begins(many), e, Event{Kind: Begin, Id: id}))
					right(t, behind(begins(id), e))
				}
			}
		}
	}
}

func TestVariables(t *testing.T) {
	for _, kind := range []int{Read, Write} {
		for x := range 64 {
			right(t, behind(row("b1"), Event{Kind: kind, Id: 1, X: x, V: num(int64(x))}))
		}
		for _, x := range append([]int{64}, far...) {
			e := Event{Kind: kind, Id: 1, X: x}
			wrong(t, behind(row("b1"), e))
			wrong(t, behind(row("b1 r1.0"), e, Event{Kind: Commit, Id: 1}))
		}
		for _, v := range rightValues {
			right(t, behind(row("b1"), Event{Kind: kind, Id: 1, X: 5, V: v}))
			right(t, behind(row("b1"), Event{Kind: kind, Id: 1, X: 5, V: v}, Event{Kind: Commit, Id: 1}))
		}
		for _, v := range wrongValues {
			wrong(t, behind(row("b1"), Event{Kind: kind, Id: 1, X: 5, V: v}))
			wrong(t, behind(row("b1"), Event{Kind: kind, Id: 1, V: v}, Event{Kind: Commit, Id: 1}))
		}
	}
}

// A Begin, a Commit and an Abort have no variable, and no value.
func TestBareEvents(t *testing.T) {
	h := row("b1 b2 c1 b3 a2 c3")
	right(t, h)
	for i := range h {
		for _, x := range append([]int{1, 2, 63, 64}, far...) {
			l := slices.Clone(h)
			l[i].X = x
			wrong(t, l)
			wrong(t, l[:i+1])
			right(t, l[:i])
		}
		for _, v := range slices.Concat(rightValues, wrongValues) {
			if v == (value.Value{}) {
				continue
			}
			l := slices.Clone(h)
			l[i].V = v
			wrong(t, l)
			wrong(t, l[:i+1])
			right(t, l[:i])
		}
	}
}

// P11.2.

func TestSpans(t *testing.T) {
	never := complex(0, float64(span.Never))
	for _, c := range []struct {
		text  string
		spans []complex128
	}{
		{"", nil},
		{"b1", []complex128{0 + never}},
		{"b1 c1", []complex128{0 + 1i}},
		{"b1 a1", []complex128{0 + 1i}},
		{"b1 r1.0 w1.0 c1", []complex128{0 + 3i}},
		{"b1 r1.0 w1.0 a1", []complex128{0 + 3i}},
		{"b1 r1.0 w1.0", []complex128{0 + never}},
		{"b1 c1 b2 a2 b3", []complex128{0 + 1i, 2 + 3i, 4 + never}},
		{"b1 b2 b3 c2 r1.0 a1 r3.1", []complex128{0 + 5i, 1 + 3i, 2 + never}},
		{"b1 r1.0 b2 c2 b3 c1", []complex128{0 + 5i, 2 + 3i, 4 + never}},
	} {
		h := row(c.text)
		right(t, h)
		if l := Spans(h); !slices.Equal(l, c.spans) {
			t.Errorf("Spans of %s: %v, not %v", c.text, l, c.spans)
		}
		for i, id := range Ids(h) {
			if id != i+1 {
				t.Errorf("Ids of %s: %v", c.text, Ids(h))
			}
		}
		if len(Ids(h)) != len(c.spans) {
			t.Errorf("Ids of %s: %v", c.text, Ids(h))
		}
		for _, s := range Spans(h) {
			if !span.Right(s) {
				t.Errorf("Spans of %s: %v is no span", c.text, s)
			}
		}
	}
}

// To the last number that there may be.
func TestSpansOfLongRows(t *testing.T) {
	h := long(2000, 32)
	for i := range h {
		if h[i].Id == 32 && h[i].Kind != Begin {
			h[i].Id = 31
		}
	}
	h[1998], h[1999] = Event{Kind: Commit, Id: 32}, Event{Kind: Abort, Id: 1}
	right(t, h)
	if l := Spans(h); l[31] != 31+1998i || l[0] != 1999i || l[30] != complex(30, span.Never) {
		t.Errorf("Spans: %v", l)
	}
}

// P11.3.

// did is an entry of these steps.
func did(committed, over bool, reads, writes []txn.Step) graph.Entry {
	return graph.Entry{Id: 1, Committed: committed, Over: over, Reads: reads, Writes: writes}
}

func read(x int, n int64) txn.Step { return txn.Step{X: x, V: num(n)} }

func write(x int, n int64) txn.Step { return txn.Step{X: x, V: num(n), Write: true} }

func list(l ...txn.Step) []txn.Step { return l }

func TestEntries(t *testing.T) {
	for _, c := range []struct {
		text  string
		entry graph.Entry // that of 1
	}{
		{"b1", did(false, false, nil, nil)},
		{"b1 c1", did(true, true, nil, nil)},
		{"b1 a1", did(false, true, nil, nil)},
		{"b1 r1.0=5", did(false, false, list(read(0, 5)), nil)},
		{"b1 r1.0=5 r1.0=6 r1.0=7 c1", did(true, true, list(read(0, 5)), nil)},
		{"b1 w1.0=5 r1.0=6 c1", did(true, true, nil, list(write(0, 5)))},
		{"b1 r1.0=4 w1.0=5 r1.0=6 c1", did(true, true, list(read(0, 4)), list(write(0, 5)))},
		{"b1 w1.0=5 r1.0=6 r1.0=7 r1.1=8 c1", did(true, true, list(read(1, 8)), list(write(0, 5)))},
		{"b1 b2 w2.0=5 r1.0=6 c1", did(true, true, list(read(0, 6)), nil)},
		{"b1 b2 w2.0=5 c2 r1.0=5 c1", did(true, true, list(read(0, 5)), nil)},
		{"b1 b2 r2.0=5 r1.0=6 c1", did(true, true, list(read(0, 6)), nil)},
		{"b1 w1.1=5 r1.0=6 c1", did(true, true, list(read(0, 6)), list(write(1, 5)))},
		{"b1 w1.0=5 w1.0=6 w1.0=7 c1", did(true, true, nil, list(write(0, 7)))},
		{"b1 w1.0=5 w1.0=7 w1.0=6 c1", did(true, true, nil, list(write(0, 6)))},
		{"b1 w1.0=5 b2 w1.1=6 w2.0=7 w1.0=8 w2.1=9 c1 c2", did(true, true, nil, list(write(0, 8), write(1, 6)))},
		{"b1 r1.63=1 r1.2=2 r1.0=3 r1.62=4 r1.1=5 c1", did(true, true, list(read(0, 3), read(1, 5), read(2, 2), read(62, 4), read(63, 1)), nil)},
		{"b1 w1.63=1 w1.2=2 w1.0=3 w1.62=4 w1.2=5 c1", did(true, true, nil, list(write(0, 3), write(2, 5), write(62, 4), write(63, 1)))},
		{"b1 r1.9=1 w1.8=2 w1.9=3 r1.8=4 r1.7=5 c1", did(true, true, list(read(7, 5), read(9, 1)), list(write(8, 2), write(9, 3)))},
		{"b1 r1.9=1 w1.8=2 w1.9=3 r1.8=4 r1.7=5 a1", did(false, true, list(read(7, 5), read(9, 1)), nil)},
		{"b1 r1.9=1 w1.8=2 w1.9=3 r1.8=4 r1.7=5", did(false, false, list(read(7, 5), read(9, 1)), nil)},
		{"b1 b2 r1.9=1 w1.8=2 c2", did(false, false, list(read(9, 1)), nil)},
		{"b1 b2 r1.9=1 w1.8=2 w2.8=3 a1 c2", did(false, true, list(read(9, 1)), nil)},
	} {
		h := row(c.text)
		right(t, h)
		if l := Entries(h); !sameEntry(l[0], c.entry) {
			t.Errorf("Entries of %s: %v, not %v", c.text, l[0], c.entry)
		}
	}
}

// Values stay as they are, of all kinds.
func TestEntriesOfAllValues(t *testing.T) {
	h := row("b1")
	for x, v := range rightValues {
		h = append(h, Event{Kind: Read, Id: 1, X: x, V: v}, Event{Kind: Write, Id: 1, X: 63 - x, V: v})
	}
	h = append(h, Event{Kind: Commit, Id: 1})
	right(t, h)
	e := Entries(h)[0]
	last := len(rightValues) - 1
	for x, v := range rightValues {
		if e.Reads[x] != (txn.Step{X: x, V: v}) || e.Writes[last-x] != (txn.Step{X: 63 - x, V: v, Write: true}) {
			t.Errorf("variables %d and %d: %v", x, 63-x, e)
		}
	}
}

// One may do more than a transaction of layer 8 has room for.
func TestEntriesOfLongRows(t *testing.T) {
	h := row("b1")
	for n := range 1998 {
		h = append(h, Event{Kind: Write, Id: 1, X: n % 63, V: num(int64(n))})
	}
	h[1500] = Event{Kind: Read, Id: 1, X: 63, V: num(7)}
	h = append(h, Event{Kind: Commit, Id: 1})
	right(t, h)
	e := Entries(h)[0]
	if len(e.Reads) != 1 || e.Reads[0] != read(63, 7) || len(e.Writes) != 63 {
		t.Fatalf("%d Reads, %d Writes: %v", len(e.Reads), len(e.Writes), e)
	}
	for x, w := range e.Writes {
		last := 1997 - (1997-x)%63
		if w != write(x, int64(last)) {
			t.Errorf("variable %d: %v, not %d", x, w, last)
		}
	}
}

// No two lists of one answer share memory: each can be written over alone.
func TestEntriesListsAreApart(t *testing.T) {
	h := row("b1 b2 b3 r1.0=1 r2.0=1 r3.0=1 w1.0=2 w2.0=2 w3.0=2 r1.1 w2.1 c1 c2 c3")
	for i := range 3 {
		for _, reads := range []bool{true, false} {
			got, want := Entries(h), wantEntries(h)
			if reads {
				scribble(got[i].Reads, read(88, 88))
				got[i].Reads, want[i].Reads = nil, nil
			} else {
				scribble(got[i].Writes, read(88, 88))
				got[i].Writes, want[i].Writes = nil, nil
			}
			if !slices.EqualFunc(got, want, sameEntry) {
				t.Errorf("a list of %d is written over: %v, not %v", i, got, want)
			}
		}
	}
}

// P11.4.

// ways is the graph of a text: "01 21" is the edges 0 to 1, and 2 to 1.
func ways(text string) mat.Mat {
	var m mat.Mat
	for _, edge := range strings.Fields(text) {
		m[edge[0]-'0'] |= 1 << (edge[1] - '0')
	}
	return m
}

// graphs checks the graphs of rows.
func graphs(t *testing.T, rows [][2]string) {
	t.Helper()
	for _, c := range rows {
		h := row(c[0])
		right(t, h)
		if m, is := Graph(h); !is || m != ways(c[1]) {
			t.Errorf("Graph of %s: %v, %v, not %s", c[0], m, is, c[1])
		}
	}
}

func TestGraphOfTime(t *testing.T) {
	graphs(t, [][2]string{
		{"", ""}, {"b1", ""}, {"b1 c1", ""}, {"b1 b2", ""}, {"b1 b2 c1 c2", ""}, {"b1 b2 c2 c1", ""},
		{"b1 c1 b2", "01"}, {"b1 a1 b2", "01"}, {"b1 c1 b2 c2", "01"}, {"b1 a1 b2 a2", "01"},
		{"b1 b2 c1", ""}, {"b1 b2 a1", ""}, {"b1 r1.0 b2 r2.0", ""},
		{"b1 c1 b2 c2 b3 c3", "01 02 12"}, {"b1 b2 c2 b3 c3 c1", "12"}, {"b1 b2 c1 b3 c2 b4", "02 03 13"},
		{"b1 b2 a2 b3", "12"}, {"b1 b2 c1 b3", "02"}, {"b1 c1 b2 b3", "01 02"},
	})
}

func TestGraphOfWhoWroteWhatWasRead(t *testing.T) {
	graphs(t, [][2]string{
		{"b1 b2 w1.0=5 c1 r2.0=5", "01"}, {"b1 b2 w2.0=5 c2 r1.0=5", "10"},
		{"b1 b2 w1.0=5 c1 r2.0=6", "01"}, // what was read does not count
		{"b1 b2 w1.0=5 c1 r2.0=5 c2", "01"}, {"b1 b2 w1.0=5 c1 r2.0=5 a2", "01"},
		{"b1 b2 r2.0 w1.0=5 c1", "10"}, {"b1 b2 w1.0=5 r2.0 c1", "10"}, // read ahead of the Commit
		{"b1 b2 w1.0=5 r2.0=5", ""}, {"b1 b2 w1.0=5 a1 r2.0=5", ""}, // not committed
		{"b1 b2 w1.1=5 c1 r2.0=5", ""}, {"b1 b2 r1.0 c1 r2.0", ""}, // no Write of it
		{"b1 b2 b3 w1.0=1 w2.0=2 c1 c2 r3.0=2", "01 12"}, {"b1 b2 b3 w2.0=2 w1.0=1 c1 c2 r3.0=2", "01 12"},
		{"b1 b2 b3 w1.0=1 w2.0=2 c2 c1 r3.0=2", "10 02"}, {"b1 b2 b3 w1.0=1 w2.1=2 c1 c2 r3.0=1", "02"},
		{"b1 b2 b3 w1.0=1 w2.0=2 c1 a2 r3.0=1", "02"}, {"b1 b2 b3 w1.0=1 w2.0=2 c1 r3.0=1", "02"},
		{"b1 b2 b3 w1.0=1 w2.0=2 c1 r3.0=1 c2", "01 02 21"},
		{"b1 b2 w1.0 c1 w2.0 r2.0", ""}, {"b1 b2 w2.0 w1.0 c1 r2.0", ""}, // its own Write
		{"b1 b2 w1.0 c1 w2.0 r2.0 c2", "01"}, {"b1 b2 w1.0 c1 w2.0 r2.0 a2", ""},
		{"b1 b2 b3 r3.0 w1.0 c1 r3.0", "20"}, {"b1 b2 w1.0 c1 r2.0 w2.0 r2.0", "01"},
		{"b1 w1.0 r1.0 c1", ""}, {"b1 r1.0 w1.0 c1", ""},
		{"b1 b2 w1.0 w1.1 c1 r2.0 r2.1", "01"}, {"b1 b2 b3 w1.0 w2.1 c1 c2 r3.1 r3.0", "02 12"},
	})
}

func TestGraphOfWhoWroteTheSame(t *testing.T) {
	graphs(t, [][2]string{
		{"b1 b2 w1.0 w2.0 c1 c2", "01"}, {"b1 b2 w1.0 w2.0 c2 c1", "10"},
		{"b1 b2 w2.0 w1.0 c1 c2", "01"}, {"b1 b2 w1.0 c1 w2.0 c2", "01"},
		{"b1 b2 w1.0 w2.1 c1 c2", ""}, {"b1 b2 w1.0 w2.0 c1", ""}, {"b1 b2 w1.0 w2.0 c2", ""},
		{"b1 b2 w1.0 w2.0 c1 a2", ""}, {"b1 b2 w1.0 w2.0 a1 c2", ""}, {"b1 b2 w1.0 w2.0 a2 c1", ""}, {"b1 b2 w1.0 w2.0", ""},
		{"b1 b2 w1.0 w1.1 w2.1 w2.2 c1 c2", "01"}, {"b1 b2 w1.63 w2.63 c1 c2", "01"}, {"b1 b2 w1.0 w1.0 c1 c2", ""},
		{"b1 b2 b3 w1.0 w2.0 w3.0 c2 c3 c1", "12 10 20"}, {"b1 b2 b3 w1.0 w2.0 w2.1 w3.1 c1 c2 c3", "01 12"},
		{"b1 b2 w1.0 w2.0 c1 r2.0 c2", "01"},
	})
}

func TestGraphOfWhoWroteOver(t *testing.T) {
	graphs(t, [][2]string{
		{"b1 b2 r1.0 w2.0 c2", "01"}, {"b1 b2 w2.0 r1.0 c2", "01"}, {"b1 b2 r2.0 w1.0 c1", "10"},
		{"b1 b2 r1.0 w2.0 c2 c1", "01"}, {"b1 b2 r1.0 c1 w2.0 c2", "01"}, {"b1 b2 r1.0 w2.0 c2 a1", "01"}, {"b1 b2 r1.0 a1 w2.0 c2", "01"},
		{"b1 b2 r1.0 w2.0", ""}, {"b1 b2 r1.0 w2.0 a2", ""}, {"b1 b2 r1.0 w2.1 c2", ""}, {"b1 b2 r1.0 r2.0 c2", ""},
		{"b1 b2 w2.0 c2 r1.0", "10"},                                                                           // committed ahead of the Read
		{"b1 b2 w1.0 r1.0 w2.0 c2", ""}, {"b1 b2 w1.0 w2.0 r1.0 c2", ""}, {"b1 b2 w1.0 r1.0 w2.0 c2 c1", "10"}, // its own Write
		{"b1 b2 r1.0 w1.0 w2.0 c2", "01"}, {"b1 b2 r1.0 w1.0 w2.0 c2 c1", "01 10"},
		{"b1 b2 b3 r1.0 w2.0 w3.0 c2 c3", "01 02 12"}, {"b1 b2 b3 r1.0 w2.0 c2 w3.0 c3", "01 02 12"},
		{"b1 b2 b3 w2.0 c2 r1.0 w3.0 c3", "10 02 12"}, {"b1 b2 b3 r1.0 r2.0 w3.0 c3", "02 12"},
		{"b1 b2 w2.0 w2.1 c2 r1.0 r1.1", "10"}, {"b1 r1.0 w1.0 c1", ""}, {"b1 b2 r1.0 r2.0 w1.0 c1 c2", "10"},
		{"b1 b2 w2.0 c2 r1.0 r1.0", "10"}, {"b1 b2 r1.0 w2.0 c2 r1.0", "01"}, // the first Read alone counts
	})
}

func TestGraphBothWays(t *testing.T) {
	graphs(t, [][2]string{
		{"b1 b2 r1.0 r2.1 w1.1 w2.0 c1 c2", "01 10"},
		{"b1 b2 r1.0 w2.0 w2.1 c2 r1.1", "01 10"},
		{"b1 b2 r1.0 r2.0 w1.0 w2.0 c1 c2", "01 10"},
		{"b1 b2 w1.0 w2.0 w2.1 r1.1 c1 c2", "01"},
		{"b1 b2 w1.0 w2.0 w1.1 c1 r2.1 c2", "01"},
		{"b1 b2 w2.0 r2.1 w1.1 w1.0 c2 c1", "10"},
		{"b1 b2 b3 r1.0 r2.1 r3.2 w1.1 w2.2 w3.0 c1 c2 c3", "02 10 21"},
	})
	if m, _ := Graph(row("b1 b2 r1.0 r2.1 w1.1 w2.0 c1 c2")); mat.Free(m) {
		t.Error("no way round")
	}
}

// Of the last ones that there may be.
func TestGraphOfMany(t *testing.T) {
	all := begins(32)
	for _, c := range [][2]int{{0, 31}, {31, 0}, {30, 31}, {31, 30}, {0, 1}, {15, 16}} {
		a, b := c[0]+1, c[1]+1
		over := behind(all, Event{Kind: Read, Id: a, X: 63}, Event{Kind: Write, Id: b, X: 63}, Event{Kind: Commit, Id: b})
		from := behind(all, Event{Kind: Write, Id: a, X: 63}, Event{Kind: Commit, Id: a}, Event{Kind: Read, Id: b, X: 63})
		same := behind(all, Event{Kind: Write, Id: b, X: 63}, Event{Kind: Write, Id: a, X: 63}, Event{Kind: Commit, Id: a}, Event{Kind: Commit, Id: b})
		for _, h := range [][]Event{over, from, same} {
			right(t, h)
			if m, is := Graph(h); !is || m != edges(map[[2]int]bool{c: true}) {
				t.Errorf("%v: %v, %v", c, m, is)
			}
		}
	}
	var h []Event
	for id := 1; id <= 32; id++ {
		h = append(h, Event{Kind: Begin, Id: id}, Event{Kind: Commit, Id: id})
	}
	right(t, h)
	m, _ := Graph(h)
	for a := range m {
		if want := set.Set(math.MaxUint32) &^ (1<<(a+1) - 1); m[a] != want {
			t.Errorf("of %d: %b, not %b", a, m[a], want)
		}
	}
}

// Whoever stands between, each kind alone makes the edge.
func TestGraphKindsAlone(t *testing.T) {
	d := dice(41)
	var alone [4]int
	for range 6000 {
		h := anyRow(&d, 8+d.below(20), 3+d.below(4), 2)
		kinds := wantKinds(h)
		m, is := Graph(h)
		if !is {
			t.Fatalf("%v is not Right", h)
		}
		for kind := range kinds {
			others := edges(slices.Delete(slices.Clone(kinds[:]), kind, kind+1)...)
			for edge := range kinds[kind] {
				if !mat.Has(m, edge[0], edge[1]) {
					t.Fatalf("Graph(%v): no edge %v of kind %d", h, edge, kind)
				}
				if !mat.Has(others, edge[0], edge[1]) {
					alone[kind]++
				}
			}
		}
		if m != edges(kinds[:]...) {
			t.Fatalf("Graph(%v): %v, not %v", h, m, kinds)
		}
	}
	if slices.Min(alone[:]) < 300 {
		t.Errorf("edges of one kind alone: %v", alone)
	}
}

// P11.5, and all others, over rows of events.

// state is who is live, and how many began.
type state struct {
	live  []int
	began int
}

func (s *state) next(e Event) {
	switch e.Kind {
	case Begin:
		s.began++
		s.live = append(s.live, e.Id)
	case Commit, Abort:
		s.live = slices.DeleteFunc(s.live, func(id int) bool { return id == e.Id })
	}
}

// anyEvent is one that may come, and whether there is one.
func (s *state) anyEvent(d *dice, most, vars int) (Event, bool) {
	kind := d.below(14)
	if kind < 3 && s.began < most || len(s.live) == 0 {
		return Event{Kind: Begin, Id: s.began + 1}, s.began < most
	}
	id := one(d, s.live)
	switch {
	case kind < 7:
		return Event{Kind: Read, Id: id, X: d.below(vars), V: one(d, rightValues)}, true
	case kind < 11:
		return Event{Kind: Write, Id: id, X: d.below(vars), V: one(d, rightValues)}, true
	case kind < 13:
		return Event{Kind: Commit, Id: id}, true
	}
	return Event{Kind: Abort, Id: id}, true
}

// anyRow is up to so many events, of so many transactions at most. In most rows
// all of them begin ahead of everything, so that time alone makes few edges.
func anyRow(d *dice, many, most, vars int) []Event {
	h, s := []Event{}, &state{}
	if d.below(3) > 0 {
		h = begins(min(most, many))
	}
	for _, e := range h {
		s.next(e)
	}
	for len(h) < many {
		e, is := s.anyEvent(d, most, vars)
		if !is {
			break
		}
		h = append(h, e)
		s.next(e)
	}
	return h
}

// wrongEvent is one that may not come.
func (s *state) wrongEvent(d *dice) Event {
	if d.below(3) == 0 {
		return Event{Kind: Begin, Id: one(d, append([]int{0, s.began, s.began + 2, 33}, far...))}
	}
	if d.below(3) == 0 || len(s.live) == 0 {
		gone := []int{0, s.began + 1, s.began + 2, 33}
		for i := 1; i <= s.began; i++ {
			if !slices.Contains(s.live, i) {
				gone = append(gone, i, i, i)
			}
		}
		return Event{Kind: 1 + d.below(4), Id: one(d, append(gone, far...))}
	}
	id := one(d, s.live)
	switch d.below(4) {
	case 0:
		return Event{Kind: one(d, append([]int{5, 6}, far...)), Id: id}
	case 1:
		return Event{Kind: 1 + d.below(2), Id: id, X: d.below(64), V: one(d, wrongValues)}
	case 2:
		return Event{Kind: 1 + d.below(2), Id: id, X: one(d, append([]int{64}, far...)), V: one(d, rightValues)}
	}
	if d.below(2) == 0 {
		return Event{Kind: 3 + d.below(2), Id: id, X: one(d, append([]int{1, 63}, far...))}
	}
	return Event{Kind: 3 + d.below(2), Id: id, V: one(d, slices.Concat(rightValues[1:], wrongValues))}
}

// parts checks that each beginning of h is Right.
func parts(t *testing.T, h []Event) {
	t.Helper()
	for n := range len(h) + 1 {
		if !Right(h[:n]) {
			t.Fatalf("the first %d of %v are not Right", n, h)
		}
	}
}

func TestRows(t *testing.T) {
	d := dice(11)
	edged, bothWays, spoilt := 0, 0, 0
	for range 3000 {
		h := anyRow(&d, d.below(50), one(&d, []int{1, 2, 3, 5, 8, 32}), one(&d, []int{1, 2, 3, 6, 64}))
		right(t, h)
		parts(t, h)
		if cut := d.below(len(h) + 1); cut < len(h) {
			right(t, h[:cut])
		}
		m, _ := Graph(h)
		if m != (mat.Mat{}) {
			edged++
		}
		if !mat.Free(m) {
			bothWays++
		}
		at, s := d.below(len(h)+1), &state{}
		for _, e := range h[:at] {
			s.next(e)
		}
		e := s.wrongEvent(&d)
		wrong(t, behind(h[:at], e))
		wrong(t, slices.Insert(slices.Clone(h), at, e))
		if at < len(h) {
			l := slices.Clone(h)
			l[at] = e
			wrong(t, l)
			spoilt++
		}
	}
	if edged < 1000 || bothWays < 100 || spoilt < 1000 {
		t.Errorf("%d rows with edges, %d with a way round, %d spoilt", edged, bothWays, spoilt)
	}
}

// Rows that are Right no more: two events changed about, one left out, or one
// twice.
func TestRowsChangedAbout(t *testing.T) {
	d := dice(14)
	is := map[bool]int{}
	for range 3000 {
		h := anyRow(&d, 1+d.below(14), 1+d.below(4), 1+d.below(2))
		a, b := d.below(len(h)), d.below(len(h))
		swapped := slices.Clone(h)
		swapped[a], swapped[b] = swapped[b], swapped[a]
		for _, l := range [][]Event{swapped, slices.Delete(slices.Clone(h), a, a+1), slices.Insert(slices.Clone(h), a, h[b])} {
			is[asTold(t, l)]++
		}
	}
	if is[true] < 1000 || is[false] < 1000 {
		t.Errorf("Right or not: %v", is)
	}
}

func TestLongRows(t *testing.T) {
	d := dice(5)
	for i := range 6 {
		h := begins(32 * (i % 2))
		s := &state{}
		for _, e := range h {
			s.next(e)
		}
		for len(h) < 2000 {
			e, is := s.anyEvent(&d, 32, 64)
			if !is {
				break
			}
			if (e.Kind == Commit || e.Kind == Abort) && d.below(40) > 0 {
				continue
			}
			h = append(h, e)
			s.next(e)
		}
		right(t, h)
		parts(t, h)
		if len(h) == 2000 {
			wrong(t, behind(h, Event{Kind: Read, Id: s.live[0]}))
		}
	}
}

// All rows of up to so many events that are Right, out of all events of some
// transactions at one variable: all calls of each, and what may come behind.
func TestAllShortRows(t *testing.T) {
	for _, c := range []struct {
		ids, many, least int
	}{{2, 8, 40000}, {3, 7, 30000}, {4, 6, 5000}} {
		events := row("r0.0 c0")
		for id := 1; id <= c.ids+1; id++ {
			for kind := Begin; kind <= Abort; kind++ {
				events = append(events, Event{Kind: kind, Id: id})
			}
		}
		rows := 0
		grow(t, nil, events, c.ids, c.many, &rows)
		if rows < c.least {
			t.Errorf("%d rows of %d of %d", rows, c.many, c.ids)
		}
	}
}

// grow checks h, which is Right, and all that go on from it.
func grow(t *testing.T, h, events []Event, most, many int, rows *int) {
	*rows++
	ids, entries := wantIds(h), wantEntries(h)
	m, is := Graph(h)
	if !is || m != wantGraph(h) || !slices.Equal(Ids(h), ids) || !slices.Equal(Spans(h), wantSpans(h)) || !slices.EqualFunc(Entries(h), entries, sameEntry) {
		t.Fatalf("%v: %v, %v, %v, %v, %v", h, m, is, Ids(h), Spans(h), Entries(h))
	}
	if many == 0 {
		return
	}
	for _, e := range events {
		l := behind(h, e)
		is := Right(l)
		if is != wantRight(l) {
			t.Fatalf("Right(%v): %v", l, is)
		}
		if is && e.Id <= most {
			grow(t, l, events, most, many-1, rows)
		}
	}
}

// All rows of up to four events, most of which are not Right.
func TestAllRows(t *testing.T) {
	events := append(row("b0 b1 b2 r1.0 r1.64 w1.0 w2.63 c1 c2 a1 a2 a0"),
		Event{Kind: Commit, Id: 1, X: 1}, Event{Kind: Begin, Id: 1, V: num(0)}, Event{Kind: 5, Id: 1}, Event{Kind: -1, Id: 1})
	is := map[bool]int{}
	var next func(h []Event)
	next = func(h []Event) {
		want := wantRight(h)
		is[want]++
		m, got := Graph(h)
		if Right(h) != want || got != want || len(Ids(h)) != len(Spans(h)) || len(Ids(h)) != len(Entries(h)) {
			t.Fatalf("Right(%v): %v", h, Right(h))
		}
		if !want && (m != mat.Mat{} || len(Ids(h)) > 0) {
			t.Fatalf("%v is not Right: %v, %v", h, m, Ids(h))
		}
		if len(h) == 4 {
			return
		}
		for _, e := range events {
			next(behind(h, e))
		}
	}
	next(nil)
	if is[true] < 100 || is[false] < 10000 {
		t.Errorf("Right or not: %v", is)
	}
}

// What engines of layer 9 do.

// walk is an engine, and the events of it.
type walk struct {
	g    *graph.Engine
	h    []Event
	live []int
}

// over takes an Id out that is over, by that Kind of event.
func (w *walk) over(id, kind int) {
	w.h = append(w.h, Event{Kind: kind, Id: id})
	w.live = slices.DeleteFunc(w.live, func(a int) bool { return a == id })
}

// anyCall does one call, and notes what comes of it.
func (w *walk) anyCall(d *dice, vars int) {
	kind := d.below(12)
	if kind < 2 || len(w.live) == 0 {
		if id, e := w.g.Begin(); e == api.OK {
			w.h = append(w.h, Event{Kind: Begin, Id: id})
			w.live = append(w.live, id)
		}
		return
	}
	id, x := one(d, w.live), d.below(vars)
	switch {
	case kind < 6:
		v, e := w.g.Read(id, x)
		if e != api.OK {
			w.over(id, Abort)
			return
		}
		w.h = append(w.h, Event{Kind: Read, Id: id, X: x, V: v})
	case kind < 9:
		v := one(d, rightValues)
		w.g.Write(id, x, v)
		w.h = append(w.h, Event{Kind: Write, Id: id, X: x, V: v})
	case kind < 11:
		if w.g.Commit(id) == api.OK {
			w.over(id, Commit)
			return
		}
		w.over(id, Abort)
	default:
		w.g.Abort(id)
		w.over(id, Abort)
	}
}

// agrees checks that the engine tells of the same entries, and that all edges
// go on in its order. It is how many of them go from a later Id to one ahead.
func (w *walk) agrees(t *testing.T) int {
	t.Helper()
	right(t, w.h)
	order := slices.Concat(w.g.Log(), w.g.Rest())
	entries := Entries(w.h)
	m, _ := Graph(w.h)
	if len(order) != len(entries) {
		t.Fatalf("%d entries, not %d", len(entries), len(order))
	}
	turned := 0
	for i, e := range order {
		if !sameEntry(entries[e.Id-1], e) {
			t.Fatalf("%v: the entry %v, not %v", w.h, entries[e.Id-1], e)
		}
		for _, f := range order[:i] {
			if mat.Has(m, e.Id-1, f.Id-1) {
				t.Fatalf("%v: an edge from %d to %d, which stands ahead: %v", w.h, e.Id, f.Id, order)
			}
			if f.Id > e.Id && mat.Has(m, f.Id-1, e.Id-1) {
				turned++
			}
		}
	}
	return turned
}

func TestEngines(t *testing.T) {
	d := dice(12)
	turned, many := 0, 0
	for range 400 {
		vars := 1 + d.below(5)
		w := &walk{g: graph.New(2+d.below(6), vars)}
		for len(w.h) < 100 && len(Ids(w.h)) < 32 {
			w.anyCall(&d, vars)
			if d.below(10) == 0 {
				turned += w.agrees(t)
			}
		}
		turned += w.agrees(t)
		many += len(w.h)
	}
	if turned < 1000 || many < 20000 {
		t.Errorf("%d events, %d edges to earlier ones", many, turned)
	}
}

// R4: what was asked before does not count, nor the order of maps.
func TestRunsAreAlike(t *testing.T) {
	run := func() ([]mat.Mat, []graph.Entry) {
		d := dice(4)
		var ms []mat.Mat
		var l []graph.Entry
		for range 200 {
			h := anyRow(&d, 60, 8, 20)
			m, _ := Graph(h)
			ms, l = append(ms, m), append(l, Entries(h)...)
		}
		return ms, l
	}
	ms, l := run()
	for range 5 {
		again, entries := run()
		if !slices.Equal(ms, again) || !slices.EqualFunc(l, entries, sameEntry) {
			t.Fatal("two runs are not alike")
		}
	}
}
