package judge

import (
	"math"
	"slices"
	"strconv"
	"strings"
	"testing"

	"warpbeam/api"
	"warpbeam/graph"
	"warpbeam/history"
	"warpbeam/mat"
	"warpbeam/value"
)

// far is numbers that are no Ids, some of them such that a cut to fewer bits
// would take for one.
var far = []int{0, -1, -2, -3, -31, -32, -33, 33, 34, 64, 65, 256, 257, -1 << 32, 1 - 1<<32, 1 << 32, 1<<32 + 1, 1<<32 + 2, 1<<32 + 3, math.MinInt, math.MinInt + 1, math.MaxInt - 1, math.MaxInt}

// idle is what stands behind a row in its memory.
var idle = history.Event{Kind: history.Write, Id: 1, X: 3, V: num(77)}

func num(n int64) value.Value { return value.Value{Kind: value.Int, N: n} }

// row is the events of a text: b1 (Begin 1), r1.0=5 (Read, by 1, of variable 0,
// that has 5), w1.0=5, c1, a1. A value that is left out is 0.
func row(text string) []history.Event {
	h := []history.Event{}
	for _, word := range strings.Fields(text) {
		e := history.Event{Kind: strings.Index("brwca", word[:1])}
		id, what, acts := strings.Cut(word[1:], ".")
		e.Id, _ = strconv.Atoi(id)
		if acts {
			x, n, _ := strings.Cut(what, "=")
			e.X, _ = strconv.Atoi(x)
			e.V.Kind = value.Int
			e.V.N, _ = strconv.ParseInt(n, 10, 64)
		}
		h = append(h, e)
	}
	return h
}

// list is the Ids of a text, "2 1 3".
func list(text string) []int {
	order := []int{}
	for _, word := range strings.Fields(text) {
		id, _ := strconv.Atoi(word)
		order = append(order, id)
	}
	return order
}

// text is the text of an order.
func text(order []int) string {
	words := []string{}
	for _, id := range order {
		words = append(words, strconv.Itoa(id))
	}
	return strings.Join(words, " ")
}

// begins is the Begins of that many.
func begins(many int) []history.Event {
	h := []history.Event{}
	for i := range many {
		h = append(h, history.Event{Kind: history.Begin, Id: i + 1})
	}
	return h
}

// behind is h, and e.
func behind(h []history.Event, e ...history.Event) []history.Event { return slices.Concat(h, e) }

// upTo is 1, 2, 3 and so on to many.
func upTo(many int) []int {
	order := make([]int, many)
	for i := range order {
		order[i] = i + 1
	}
	return order
}

func turned(order []int) []int {
	l := slices.Clone(order)
	slices.Reverse(l)
	return l
}

// dice is a row of numbers without a pattern, the same ones in every run.
type dice uint64

func (d *dice) below(n int) int {
	*d = *d*6364136223846793005 + 1442695040888963407
	return int(uint64(*d)>>33) % n
}

func one[T any](d *dice, l []T) T { return l[d.below(len(l))] }

func (d *dice) shuffled(many int) []int {
	order := upTo(many)
	for i := range order {
		j := i + d.below(many-i)
		order[i], order[j] = order[j], order[i]
	}
	return order
}

// Answers from the chapter's words, by the events themselves.

// where is the number of the first event of that Id and Kind, -1 if there is
// none.
func where(h []history.Event, id, kind int) int {
	return slices.IndexFunc(h, func(e history.Event) bool { return e.Id == id && e.Kind == kind })
}

// ended is the number of the event with which that one is over, or -1.
func ended(h []history.Event, id int) int {
	return max(where(h, id, history.Commit), where(h, id, history.Abort))
}

// many is how many transactions a row has.
func many(h []history.Event) int {
	n := 0
	for _, e := range h {
		if e.Kind == history.Begin {
			n++
		}
	}
	return n
}

func wantFits(h []history.Event, order []int) bool {
	if !history.Right(h) || !eachOnce(h, order) {
		return false
	}
	for i, id := range order {
		for _, ahead := range order[:i] {
			if end := ended(h, id); end >= 0 && end < where(h, ahead, history.Begin) {
				return false
			}
		}
	}
	return oneByOne(h, order)
}

func eachOnce(h []history.Event, order []int) bool {
	sorted := slices.Clone(order)
	slices.Sort(sorted)
	return slices.Equal(sorted, upTo(many(h)))
}

// oneByOne tells whether each finds what it read, if all are done in that order.
func oneByOne(h []history.Event, order []int) bool {
	now := map[int]value.Value{}
	for x := range 64 {
		now[x] = num(0)
	}
	for _, id := range order {
		knows, leaves := map[int]bool{}, map[int]value.Value{}
		for _, e := range h {
			switch {
			case e.Id != id:
			case e.Kind == history.Read:
				if !knows[e.X] && now[e.X] != e.V {
					return false
				}
				knows[e.X] = true
			case e.Kind == history.Write:
				knows[e.X], leaves[e.X] = true, e.V
			case e.Kind == history.Commit:
				for x, v := range leaves {
					now[x] = v
				}
			}
		}
	}
	return true
}

// wantFind takes one after the other: the least one that does not stand yet,
// and to which no edge comes from one that does not.
func wantFind(h []history.Event) ([]int, bool) {
	m, is := history.Graph(h)
	if !is {
		return nil, false
	}
	var order []int
	for range many(h) {
		id := 1
		for id <= many(h) && (slices.Contains(order, id) || waits(m, many(h), order, id)) {
			id++
		}
		if id > many(h) {
			return nil, false
		}
		order = append(order, id)
	}
	return order, true
}

func waits(m mat.Mat, many int, order []int, id int) bool {
	for from := 1; from <= many; from++ {
		if mat.Has(m, from-1, id-1) && !slices.Contains(order, from) {
			return true
		}
	}
	return false
}

// forward tells whether all edges of the row's graph go on in that order.
func forward(h []history.Event, order []int) bool {
	m, is := history.Graph(h)
	for i, id := range order {
		for _, ahead := range order[:i] {
			is = is && !mat.Has(m, id-1, ahead-1)
		}
	}
	return is
}

// orders is all orders of 1 to many, the lesser one first, compared number by
// number.
func orders(many int) [][]int {
	var l [][]int
	var next func(order []int)
	next = func(order []int) {
		if len(order) == many {
			l = append(l, order)
		}
		for id := 1; id <= many; id++ {
			if !slices.Contains(order, id) {
				next(append(slices.Clone(order), id))
			}
		}
	}
	next([]int{})
	return l
}

// memory is all of the memory that a list stands in, what is behind it too.
func memory[T any](l []T) []T { return l[:cap(l)] }

// roomy is l in new memory, that goes on behind it.
func roomy[T any](l []T, with T) []T {
	return append(append(make([]T, 0, len(l)+3), l...), with, with, with)[:len(l)]
}

// asks asks for all that is to be known of h and order, twice, since nothing
// may be kept; writes over what is told; and checks that what was handed in is
// as it was.
func asks(t *testing.T, h []history.Event, order []int) (fits bool, found []int, is, opaque bool) {
	t.Helper()
	h, order = roomy(h, idle), roomy(order, 1)
	wasH, wasOrder := slices.Clone(memory(h)), slices.Clone(memory(order))
	for again := range 2 {
		f := Fits(h, order)
		l, i := Find(h)
		o := Opaque(h)
		if again == 1 && (f != fits || i != is || o != opaque || !slices.Equal(l, found)) {
			t.Fatalf("%v, %v: asked again, %v, %v, %v, %v", h, order, f, l, i, o)
		}
		fits, found, is, opaque = f, slices.Clone(l), i, o
		for n := range memory(l) {
			memory(l)[n] = 99
		}
		if !slices.Equal(memory(h), wasH) || !slices.Equal(memory(order), wasOrder) {
			t.Fatalf("what was handed in: %v, %v, not %v, %v", memory(h), memory(order), wasH, wasOrder)
		}
	}
	return fits, found, is, opaque
}

// asTold checks all calls against the chapter's words. It tells whether the
// order fits, and whether there is one that goes by the graph.
func asTold(t *testing.T, h []history.Event, order []int) (bool, bool) {
	t.Helper()
	fits, found, is, opaque := asks(t, h, order)
	if want := wantFits(h, order); fits != want {
		t.Fatalf("Fits(%v, %v): %v", h, order, fits)
	}
	want, there := wantFind(h)
	if is != there || !slices.Equal(found, want) {
		t.Fatalf("Find(%v): %v, %v, not %v, %v", h, found, is, want, there)
	}
	if opaque != (there && wantFits(h, want)) {
		t.Fatalf("Opaque(%v): %v", h, opaque)
	}
	return fits, is
}

// fits checks orders of a row that fit, and such that do not.
func fits(t *testing.T, h []history.Event, is, not []string) {
	t.Helper()
	for i, text := range slices.Concat(is, not) {
		if got, _ := asTold(t, h, list(text)); got != (i < len(is)) {
			t.Errorf("Fits(%v, %s): %v", h, text, got)
		}
	}
}

// nothing checks that h is not Right, and that nothing comes of it.
func nothing(t *testing.T, h []history.Event, order []int) {
	t.Helper()
	if fit, found, is, opaque := asks(t, h, order); history.Right(h) || fit || len(found) > 0 || is || opaque {
		t.Errorf("%v, %v: %v, %v, %v, %v", h, order, fit, found, is, opaque)
	}
}

// finds checks what Find tells of a row, and whether that fits.
func finds(t *testing.T, h []history.Event, order []int, opaque bool) {
	t.Helper()
	asTold(t, h, order)
	if l, is := Find(h); !is || !slices.Equal(l, order) || Opaque(h) != opaque || Fits(h, l) != opaque {
		t.Errorf("%v: %v, %v, %v", h, l, is, Opaque(h))
	}
}

// goesRound checks that of a row, which is Right, nothing is found.
func goesRound(t *testing.T, h []history.Event) {
	t.Helper()
	asTold(t, h, nil)
	if l, is := Find(h); !history.Right(h) || is || len(l) > 0 || Opaque(h) {
		t.Errorf("%v: %v, %v, %v", h, l, is, Opaque(h))
	}
}

// The chapter's example.

func TestExample(t *testing.T) {
	fits(t, row("b1 r1.0=0"), []string{"1"}, nil)
	fits(t, row("b1 r1.0=5"), nil, []string{"1"})
	if h := row("b1 r1.0=5"); !slices.Equal(h, []history.Event{{Kind: history.Begin, Id: 1}, {Kind: history.Read, Id: 1, X: 0, V: num(5)}}) {
		t.Errorf("the text of it: %v", h)
	}
}

// P12.1.

// spoilt is events that may come behind none of the rows here.
var spoilt = []history.Event{
	{Kind: 5, Id: 1}, {Kind: -1, Id: 1}, {Kind: history.Begin, Id: 0}, {Kind: history.Begin, Id: -1}, {Kind: history.Begin, Id: 40},
	{Kind: history.Commit, Id: 0}, {Kind: history.Abort, Id: 33}, {Kind: history.Commit, Id: 1, X: 1}, {Kind: history.Abort, Id: 1, V: num(0)},
	{Kind: history.Read, Id: 0, V: num(0)}, {Kind: history.Read, Id: 1, X: 64, V: num(0)}, {Kind: history.Read, Id: 1, X: -1, V: num(0)},
	{Kind: history.Write, Id: 1, X: 2, V: value.Value{Kind: value.Ref, N: 64}}, {Kind: history.Write, Id: 1, V: value.Value{N: 1}},
}

func TestOfWhatIsNotRight(t *testing.T) {
	for _, events := range []string{"", "b1", "b1 r1.0", "b1 b2 r1.0 w2.0=5 c2", "b1 c1 b2 r2.0", "b1 w1.0=5 c1 b2 r2.0=5 b3 a2"} {
		h := row(events)
		found, _ := Find(h)
		fits(t, h, []string{text(found)}, nil)
		for _, e := range spoilt {
			for _, order := range slices.Concat([][]int{nil, {}, {1}, {1, 2}}, orders(many(h)), [][]int{upTo(many(h) + 1), found}) {
				nothing(t, behind(h, e), order)
				nothing(t, slices.Insert(slices.Clone(h), 0, e), order)
			}
		}
	}
	for _, text := range []string{"r1.0", "c1", "a1", "b2", "b1 b1", "b1 c1 c1", "b1 c1 r1.0", "b1 a1 c1", "r1.0 b1", "b2 b1", "b1 c2 b2"} {
		for _, order := range [][]int{nil, {}, {1}, {2}, {1, 2}, {2, 1}, {0}} {
			nothing(t, row(text), order)
		}
	}
	nothing(t, begins(33), upTo(33))
	nothing(t, begins(33), upTo(32))
	nothing(t, begins(33), nil)
}

func TestOfNoEvents(t *testing.T) {
	for _, h := range [][]history.Event{nil, {}, make([]history.Event, 0, 4)} {
		for _, order := range [][]int{nil, {}, make([]int, 0, 4)} {
			if !Fits(h, order) {
				t.Errorf("Fits(%v, %v): false", h, order)
			}
		}
		finds(t, h, nil, true)
		for _, id := range append([]int{1, 2, 32}, far...) {
			for _, order := range [][]int{{id}, {id, id}, {1, id}} {
				if is, _ := asTold(t, h, order); is {
					t.Errorf("Fits(%v, %v): true", h, order)
				}
			}
		}
	}
}

func TestOrdersThatAreNotWhole(t *testing.T) {
	for n := 1; n <= 32; n++ {
		h := begins(n)
		for _, order := range [][]int{upTo(n), turned(upTo(n))} {
			if !Fits(h, order) {
				t.Fatalf("Fits of %d, %v: false", n, order)
			}
			notWhole(t, h, order)
		}
		for _, order := range [][]int{nil, {}, make([]int, n), slices.Repeat([]int{1}, n+1), slices.Repeat([]int{n}, n+1), slices.Repeat(upTo(n), 2), upTo(n + 1), upTo(n + 1)[1:]} {
			if Fits(h, order) {
				t.Fatalf("Fits of %d, %v: true", n, order)
			}
		}
	}
	long := slices.Repeat(upTo(3), 1<<16)
	if Fits(begins(3), long) || !Fits(begins(3), long[:3]) || !Fits(begins(3), long[1:4]) {
		t.Error("a long order, or a beginning of it")
	}
}

// notWhole checks that an order that fits does not, if one is left out, or
// stands twice, or is of no transaction, at each place.
func notWhole(t *testing.T, h []history.Event, order []int) {
	t.Helper()
	none := append([]int{len(order) + 1, len(order) + 2}, far...)
	for at, id := range order {
		if l := slices.Delete(slices.Clone(order), at, at+1); Fits(h, l) {
			t.Fatalf("Fits(%v, %v): true", h, l)
		}
		for _, other := range slices.Concat(order, none) {
			l := slices.Clone(order)
			l[at] = other
			if other != id && Fits(h, l) {
				t.Fatalf("Fits(%v, %v): true", h, l)
			}
			l = slices.Insert(slices.Clone(order), at, other)
			if Fits(h, l) || Fits(h, append(slices.Clone(order), other)) {
				t.Fatalf("Fits(%v, %v): true", h, l)
			}
		}
	}
}

func TestOrdersOfOthers(t *testing.T) {
	h := row("b1 b2 r1.0 w2.0=5 c2")
	fits(t, h, []string{"1 2"}, []string{"2 1", "", "1", "2", "1 1", "2 2", "1 2 1", "1 2 2", "1 1 2", "2 1 2", "0 1", "0 1 2", "1 2 0", "1 0", "0 2", "-1 2", "1 -2", "1 2 -1", "1 3", "3 2", "1 2 3", "3 1 2", "1 3 2", "2 3", "0 0", "3 3"})
	fits(t, row("b1 r1.0"), []string{"1"}, []string{"", "0", "-1", "2", "1 1", "1 2", "0 1", "1 0", "2 1"})
	for _, id := range far {
		for _, order := range [][]int{{id, 2}, {1, id}, {id}, {id, 1, 2}, {1, id, 2}, {1, 2, id}} {
			if is, _ := asTold(t, h, order); is {
				t.Errorf("Fits of %v: true", order)
			}
		}
	}
}

func TestTime(t *testing.T) {
	for _, c := range []struct {
		text    string
		is, not []string
	}{
		{"b1 c1 b2", []string{"1 2"}, []string{"2 1"}}, // the end right ahead of the Begin
		{"b1 a1 b2", []string{"1 2"}, []string{"2 1"}},
		{"b1 c1 b2 c2", []string{"1 2"}, []string{"2 1"}},
		{"b1 a1 b2 a2", []string{"1 2"}, []string{"2 1"}},
		{"b1 b2 c1", []string{"1 2", "2 1"}, nil}, // and right behind it
		{"b1 b2 a1", []string{"1 2", "2 1"}, nil},
		{"b1 b2 c1 c2", []string{"1 2", "2 1"}, nil},
		{"b1 b2 c2 c1", []string{"1 2", "2 1"}, nil},
		{"b1 b2 a2 a1", []string{"1 2", "2 1"}, nil},
		{"b1 b2", []string{"1 2", "2 1"}, nil}, // neither is over
		{"b1 r1.0 b2 r2.0", []string{"1 2", "2 1"}, nil},
		{"b1 r1.0 c1 b2 r2.0", []string{"1 2"}, []string{"2 1"}},
		{"b1 b2 c2 b3", []string{"1 2 3", "2 1 3", "2 3 1"}, []string{"1 3 2", "3 1 2", "3 2 1"}},
		{"b1 b2 c1 b3", []string{"1 2 3", "2 1 3", "1 3 2"}, []string{"2 3 1", "3 1 2", "3 2 1"}},
		{"b1 c1 b2 c2 b3", []string{"1 2 3"}, []string{"1 3 2", "2 1 3", "2 3 1", "3 1 2", "3 2 1"}},
		{"b1 c1 b2 b3", []string{"1 2 3", "1 3 2"}, []string{"2 1 3", "2 3 1", "3 1 2", "3 2 1"}},
		{"b1 b2 b3 c2 a1 c3", []string{"1 2 3", "1 3 2", "2 1 3", "2 3 1", "3 1 2", "3 2 1"}, nil},
		{"b1 a1 b2 b3 c3 b4 c2", []string{"1 2 3 4", "1 3 2 4", "1 3 4 2"}, []string{"1 2 4 3", "1 4 2 3", "3 1 2 4", "2 1 3 4", "4 3 2 1"}},
	} {
		fits(t, row(c.text), c.is, c.not)
	}
}

func TestReadsOfWhatWasWritten(t *testing.T) {
	for _, c := range []struct {
		text    string
		is, not []string
	}{
		{"b1 b2 w1.0=5 c1 r2.0=5", []string{"1 2"}, []string{"2 1"}}, // ahead, or behind
		{"b1 b2 w2.0=5 c2 r1.0=5", []string{"2 1"}, []string{"1 2"}},
		{"b1 b2 w1.0=5 c1 r2.0=5 c2", []string{"1 2"}, []string{"2 1"}},
		{"b1 b2 w1.0=5 c1 r2.0=5 a2", []string{"1 2"}, []string{"2 1"}},
		{"b1 b2 w1.0=5 c1 r2.0=0", []string{"2 1"}, []string{"1 2"}},
		{"b1 b2 w1.0=5 c1 r2.0=6", nil, []string{"1 2", "2 1"}},
		{"b1 b2 w1.1=5 c1 r2.0=5", nil, []string{"1 2", "2 1"}},
		{"b1 b2 w1.0=5 r2.0=5 c1", []string{"1 2"}, []string{"2 1"}}, // when it was read does not count
		{"b1 b2 w1.0=5 r2.0=5", nil, []string{"1 2", "2 1"}},         // not committed
		{"b1 b2 w1.0=5 r2.0=0", []string{"1 2", "2 1"}, nil},
		{"b1 b2 w1.0=5 r2.0=5 a1", nil, []string{"1 2", "2 1"}}, // aborted
		{"b1 b2 w1.0=5 a1 r2.0=5", nil, []string{"1 2", "2 1"}},
		{"b1 b2 w1.0=5 a1 r2.0=0", []string{"1 2", "2 1"}, nil},
		{"b1 w1.0=5 a1 b2 r2.0=5", nil, []string{"1 2", "2 1"}},
		{"b1 w1.0=5 a1 b2 r2.0=0", []string{"1 2"}, []string{"2 1"}},
		{"b1 w1.0=5 c1 b2 r2.0=5", []string{"1 2"}, []string{"2 1"}},
		{"b1 w1.0=5 c1 b2 r2.0=0", nil, []string{"1 2", "2 1"}},                                                           // time and value are at odds
		{"b1 b2 b3 w1.0=1 w2.0=2 c1 c2 r3.0=2", []string{"1 2 3", "2 3 1"}, []string{"1 3 2", "2 1 3", "3 1 2", "3 2 1"}}, // the last one ahead of it
		{"b1 b2 b3 w1.0=1 w2.0=2 c1 c2 r3.0=1", []string{"1 3 2", "2 1 3"}, []string{"1 2 3", "2 3 1", "3 1 2", "3 2 1"}},
		{"b1 b2 b3 w1.0=1 w2.0=2 c1 c2 r3.0=0", []string{"3 1 2", "3 2 1"}, []string{"1 2 3", "1 3 2", "2 1 3", "2 3 1"}},
		{"b1 b2 r1.0=0 w2.0=5 w2.1=6 c2 r1.1=6", nil, []string{"1 2", "2 1"}}, // half of what another one did
		{"b1 b2 r1.0=0 r2.0=0 w1.0=1 w2.0=1 c1 c2", nil, []string{"1 2", "2 1"}},
		{"b1 b2 r1.0=0 r2.1=0 w1.1=5 w2.0=6 c1 c2", nil, []string{"1 2", "2 1"}},
		{"b1 b2 r1.0=0 r2.1=0 w1.1=5 w2.0=6 c1", []string{"2 1"}, []string{"1 2"}},
		{"b1 b2 r1.0=0 r2.1=0 w1.1=5 w2.0=6", []string{"1 2", "2 1"}, nil},
	} {
		fits(t, row(c.text), c.is, c.not)
	}
}

func TestReadsOfItsOwn(t *testing.T) {
	for _, c := range []struct {
		text    string
		is, not []string
	}{
		{"b1 w1.0=5 r1.0=5", []string{"1"}, nil}, // behind its own Write no Read counts
		{"b1 w1.0=5 r1.0=6 c1", []string{"1"}, nil},
		{"b1 r1.0=5 w1.0=5", nil, []string{"1"}},
		{"b1 r1.0=5 w1.0=5 c1", nil, []string{"1"}},
		{"b1 r1.0=0 w1.0=5 r1.0=5 c1", []string{"1"}, nil},
		{"b1 r1.0=0 r1.0=5", []string{"1"}, nil}, // nor one behind the first one
		{"b1 r1.0=5 r1.0=0", nil, []string{"1"}},
		{"b1 w1.1=5 r1.0=5 c1", nil, []string{"1"}},
		{"b1 b2 w1.0=5 c1 w2.0=6 r2.0=7", []string{"1 2", "2 1"}, nil},
	} {
		fits(t, row(c.text), c.is, c.not)
	}
}

func TestWhatIsThereAtFirst(t *testing.T) {
	others := []value.Value{{Kind: value.Nil}, {Kind: value.Ref}, {Kind: value.Ref, N: 1}, {Kind: value.Ref, N: 63}, num(1), num(-1), num(5), num(1 << 32), num(math.MaxInt64), num(math.MinInt64)}
	for x := range 64 {
		for _, end := range [][]history.Event{nil, row("c1"), row("a1")} {
			read := func(v value.Value) []history.Event {
				return behind(row("b1"), append([]history.Event{{Kind: history.Read, Id: 1, X: x, V: v}}, end...)...)
			}
			fits(t, read(num(0)), []string{"1"}, []string{"", "1 1", "2"})
			for _, v := range others {
				fits(t, read(v), nil, []string{"1", "", "1 1"})
			}
		}
		for _, v := range others {
			left := behind(row("b1 b2"), history.Event{Kind: history.Write, Id: 1, X: x, V: v}, history.Event{Kind: history.Commit, Id: 1})
			fits(t, behind(left, history.Event{Kind: history.Read, Id: 2, X: x, V: v}), []string{"1 2"}, []string{"2 1"})
			fits(t, behind(left, history.Event{Kind: history.Read, Id: 2, X: x, V: num(0)}), []string{"2 1"}, []string{"1 2"})
			fits(t, behind(left, history.Event{Kind: history.Read, Id: 2, X: 63 - x, V: v}), nil, []string{"1 2", "2 1"})
			fits(t, behind(left, history.Event{Kind: history.Read, Id: 2, X: 63 - x, V: num(0)}), []string{"1 2", "2 1"}, nil)
		}
	}
}

func TestSeveralWritesOfOne(t *testing.T) {
	for _, c := range []struct {
		text    string
		is, not []string
	}{
		{"b1 b2 w1.0=5 w1.0=6 c1 r2.0=6", []string{"1 2"}, []string{"2 1"}},
		{"b1 b2 w1.0=5 w1.0=6 c1 r2.0=5", nil, []string{"1 2", "2 1"}},
		{"b1 b2 w1.0=6 w1.0=5 c1 r2.0=5", []string{"1 2"}, []string{"2 1"}},
		{"b1 b2 w1.0=6 w1.0=5 c1 r2.0=6", nil, []string{"1 2", "2 1"}},
		{"b1 b2 w1.0=5 w1.0=0 c1 r2.0=0", []string{"1 2", "2 1"}, nil},
		{"b1 b2 w1.0=5 w1.1=6 w1.0=7 c1 r2.0=7 r2.1=6", []string{"1 2"}, []string{"2 1"}},
		{"b1 b2 w1.0=5 w1.1=6 w1.0=7 c1 r2.0=5 r2.1=6", nil, []string{"1 2", "2 1"}},
		{"b1 b2 w1.0=5 r1.0=5 w1.0=6 w1.0=7 c1 r2.0=7", []string{"1 2"}, []string{"2 1"}},
		{"b1 b2 w1.0=5 w1.0=6 a1 r2.0=0", []string{"1 2", "2 1"}, nil},
	} {
		fits(t, row(c.text), c.is, c.not)
	}
}

// P12.2.

func TestFind(t *testing.T) {
	for _, c := range []struct {
		text, order string
		opaque      bool
	}{
		{"", "", true},
		{"b1", "1", true}, {"b1 c1", "1", true}, {"b1 a1", "1", true},
		{"b1 b2 b3", "1 2 3", true},
		{"b1 b2 b3 c3 c2 c1", "1 2 3", true}, // the least one, however they ended
		{"b1 c1 b2 c2 b3", "1 2 3", true},
		{"b1 b2 r1.0 w2.0=5 c2", "1 2", true},
		{"b1 b2 w2.0=5 c2 r1.0=5", "2 1", true},
		{"b1 b2 w2.0=5 w1.0=6 c2 c1", "2 1", true},
		{"b1 b2 w2.0=5 w1.0=6 c1 c2", "1 2", true},
		{"b1 b2 r2.0 w1.0=5 c1", "2 1", true},
		{"b1 b2 b3 w3.0=5 c3 r1.0=5", "2 3 1", true}, // 1 is free behind 3 alone, 2 at once
		{"b1 b2 b3 w3.0=5 c3 r2.0=5", "1 3 2", true},
		{"b1 b2 b3 w2.0=5 c2 r1.0=5", "2 1 3", true},             // then 1 goes ahead of 3, that was free all the time
		{"b1 b2 b3 b4 w2.0=5 c2 r1.0=5", "2 1 3 4", true},        // likewise
		{"b1 b2 b3 b4 w4.0=5 c4 r1.0=5 r2.0=5", "3 4 1 2", true}, // both are free behind 4
		{"b1 b2 b3 b4 w4.0=5 c4 r1.0=5 r1.1=0 w3.1=6 c3", "2 4 1 3", true},
		{"b1 b2 b3 w3.0=5 c3 r2.0=5 w2.1=6 c2 r1.1=6", "3 2 1", true},
		{"b1 b2 c2 b3 c3 b4 w4.0=5 c4 r1.0=5", "2 3 4 1", true}, // it began first, and stands last
		{"b1 b2 w2.0=5 c2 b3 r1.0=5 c1 b4 c4 c3", "2 1 3 4", true},
		{"b1 b2 w1.0=5 c1 b3 r2.1 r3.0=5", "1 2 3", true},
		{"b1 b2 b3 w1.0=5 w2.1=5 c2 r3.1=5 a1 a3", "1 2 3", true},
		{"b1 b2 w2.0=5 c2 r1.0=6", "2 1", false},
		{"b1 b2 w2.0=5 c2 r1.0=0", "2 1", false}, // what fits goes against the graph
		{"b1 b2 w2.0=5 r1.0=5 c2", "1 2", false},
		{"b1 r1.0=1", "1", false},
	} {
		finds(t, row(c.text), list(c.order), c.opaque)
	}
}

func TestFindOfNoneThatGoesRound(t *testing.T) {
	for _, text := range []string{
		"b1 b2 r1.0 r2.1 w1.1=5 w2.0=6 c1 c2", // of two
		"b1 b2 r1.0 w2.0=5 w2.1=6 c2 r1.1=6",
		"b1 b2 r1.0 r2.0 w1.0=1 w2.0=2 c1 c2",
		"b1 b2 r2.0 w1.0=5 w1.1=6 c1 r2.1=6",
		"b1 b2 b3 r1.0 r2.1 r3.2 w1.1=5 w2.2=6 w3.0=7 c1 c2 c3", // of three
		"b1 b2 b3 r1.0 r2.1 r3.2 w3.1=5 w1.2=6 w2.0=7 c3 c1 c2",
		"b1 b2 b3 r1.0 w2.0=5 w2.1=6 c2 r3.1=6 w3.2=7 c3 r1.2=7",
		"b1 b2 c1 r2.0 b3 w3.0=5 w3.1=6 c3 r2.1=6",
		"b1 b2 b3 b4 r2.0 w4.0=5 w4.1=6 c4 r2.1=6 c1 c3", // some stand ahead of the way round, some behind it
		"b1 c1 b2 b3 r2.0 w3.0=5 w3.1=6 c3 r2.1=6 c2 b4",
		"b1 b2 b3 r1.0 w3.0=5 w3.1=6 c3 r1.1=6",
	} {
		goesRound(t, row(text))
	}
	for many := 2; many <= 32; many++ {
		h := begins(many) // each one has read what the next one writes
		for id := 1; id <= many; id++ {
			h = append(h, history.Event{Kind: history.Read, Id: id, X: id % many, V: num(0)}, history.Event{Kind: history.Write, Id: id, X: id - 1, V: num(1)})
		}
		open := slices.Clone(h)
		for id := 1; id <= many; id++ {
			h = append(h, history.Event{Kind: history.Commit, Id: id})
			if id < many {
				asTold(t, h, upTo(many))
				if l, is := Find(h); !is || !forward(h, l) {
					t.Errorf("%d of %d are committed: %v, %v", id, many, l, is)
				}
			}
		}
		goesRound(t, h)
		goesRound(t, behind(open, turnedEvents(h[len(open):])...))
	}
}

func turnedEvents(h []history.Event) []history.Event {
	l := slices.Clone(h)
	slices.Reverse(l)
	return l
}

// As many as there may be: without an edge, in a row, in a row the other way,
// and with one edge alone.
func TestFindOfMany(t *testing.T) {
	for many := 1; many <= 32; many++ {
		finds(t, begins(many), upTo(many), true)
		var chain []history.Event
		for id := 1; id <= many; id++ {
			chain = append(chain, history.Event{Kind: history.Begin, Id: id}, history.Event{Kind: history.Commit + id%2, Id: id})
		}
		finds(t, chain, upTo(many), true)
		fits(t, chain, []string{text(upTo(many))}, nil)
		back := begins(many)
		for id := many; id >= 1; id-- {
			back = append(back, history.Event{Kind: history.Read, Id: id, X: 0, V: num(int64(many - id))}, history.Event{Kind: history.Write, Id: id, X: 0, V: num(int64(many - id + 1))}, history.Event{Kind: history.Commit, Id: id})
		}
		finds(t, back, turned(upTo(many)), true)
	}
	for _, c := range [][2]int{{31, 32}, {32, 31}, {1, 32}, {32, 1}, {2, 1}, {17, 16}} {
		from, to := c[0], c[1]
		h := behind(begins(32), history.Event{Kind: history.Write, Id: from, X: 63, V: num(5)}, history.Event{Kind: history.Commit, Id: from}, history.Event{Kind: history.Read, Id: to, X: 63, V: num(5)})
		order := upTo(32)
		if from > to { // to stands right behind from
			order = slices.Delete(order, to-1, to)
			order = slices.Insert(order, from-1, to)
		}
		finds(t, h, order, true)
	}
}

// Of few, what is found is the first one of all orders that go by the graph.
func TestFindIsTheFirstOrder(t *testing.T) {
	d := dice(8)
	found, none := 0, 0
	for range 1500 {
		h := anyRow(&d, 8+d.below(30), 2+d.below(4), 1+d.below(3))
		first := slices.IndexFunc(orders(many(h)), func(order []int) bool { return forward(h, order) })
		l, is := Find(h)
		if is != (first >= 0) || is && !slices.Equal(l, orders(many(h))[first]) || !is && len(l) > 0 {
			t.Fatalf("Find(%v): %v, %v, not number %d", h, l, is, first)
		}
		if is {
			found++
		} else {
			none++
		}
	}
	if found < 300 || none < 200 {
		t.Errorf("%d found, %d not", found, none)
	}
}

// P12.3.

func TestOpaque(t *testing.T) {
	for _, text := range []string{
		"b1 r1.0=5", "b1 r1.0=5 a1", "b1 r1.0=5 c1", // Right, and without a way round, but not what is there
		"b1 b2 w1.0=5 c1 r2.0=6", "b1 b2 w1.0=5 c1 r2.0=0", "b1 b2 w1.0=5 a1 r2.0=5", "b1 b2 w1.0=5 r2.0=5", "b1 b2 w1.0=5 r2.0=5 c1",
		"b1 w1.0=5 c1 b2 r2.0=0 a2", "b1 b2 w1.0=5 w1.0=6 c1 r2.0=5", "b1 b2 b3 w1.0=1 w2.0=2 c1 c2 r3.0=1", "b1 b2 b3 r1.0 r2.0 r3.63=1",
	} {
		h := row(text)
		order, is := Find(h)
		if !is || !forward(h, order) {
			t.Errorf("Find of %s: %v, %v", text, order, is)
		}
		finds(t, h, order, false)
	}
	for _, c := range [][2]string{ // with a way round, though that order would fit
		{"b1 b2 r1.0=0 w2.0=0 w2.1=0 c2 r1.1=0", "1 2"},
		{"b1 b2 r1.0=0 w2.0=0 w2.1=0 c2 r1.1=0", "2 1"},
		{"b1 b2 r1.0=0 w2.0=0 w2.1=6 c2 r1.1=6", "2 1"},
		{"b1 b2 r1.0=0 w2.0=5 w2.1=0 c2 r1.1=0", "1 2"},
		{"b1 b2 r1.0=0 r2.0=0 w1.0=0 w2.0=0 c1 c2", "2 1"},
		{"b1 b2 b3 r1.0 r2.1 r3.2 w1.1=0 w2.2=0 w3.0=0 c1 c2 c3", "3 1 2"},
	} {
		h := row(c[0])
		goesRound(t, h)
		fits(t, h, []string{c[1]}, nil)
	}
	for _, text := range []string{"", "b1", "b1 r1.0", "b1 b2 r1.0 w2.0=5 c2 b3 r3.0=5", "b1 b2 w1.0=5 a1 r2.0", "b1 w1.0=5 c1 b2 r2.0=5 w2.0=6 b3 r3.0=5 c2 r3.1"} {
		if !Opaque(row(text)) {
			t.Errorf("%s is not Opaque", text)
		}
	}
}

// P12.4, and all others, over rows of events.

// anyRow is up to so many events, of so many transactions at most. What is read
// is what was committed last, but now and then something else. In most rows all
// of them begin ahead of everything, so that time alone makes few edges.
func anyRow(d *dice, many, most, vars int) []history.Event {
	h, live, began := []history.Event{}, []int{}, 0
	if d.below(3) > 0 {
		began = min(most, many)
		h, live = begins(began), upTo(began)
	}
	wrong := d.below(3)
	for len(h) < many {
		kind := d.below(16)
		if began < most && (kind < 3 || len(live) == 0) {
			began++
			h, live = append(h, history.Event{Kind: history.Begin, Id: began}), append(live, began)
			continue
		}
		if len(live) == 0 {
			break
		}
		id, x := one(d, live), d.below(vars)
		e := history.Event{Kind: history.Read, Id: id, X: x, V: last(h, x)}
		switch {
		case kind < 7 && d.below(4) < wrong:
			e.V = num(int64(d.below(3)))
		case kind < 7:
		case kind < 13:
			e.Kind, e.V = history.Write, num(int64(d.below(3)))
		default:
			e = history.Event{Kind: history.Commit + d.below(6)/5, Id: id}
			live = slices.DeleteFunc(live, func(other int) bool { return other == id })
		}
		h = append(h, e)
	}
	return h
}

// last is what x has behind the last Commit of one that wrote it.
func last(h []history.Event, x int) value.Value {
	for n := len(h) - 1; n >= 0; n-- {
		for m := n - 1; m >= 0 && h[n].Kind == history.Commit; m-- {
			if h[m].Kind == history.Write && h[m].Id == h[n].Id && h[m].X == x {
				return h[m].V
			}
		}
	}
	return num(0)
}

func TestRows(t *testing.T) {
	d := dice(3)
	is := map[bool]int{}
	goes := map[bool]int{}
	for range 3000 {
		h := anyRow(&d, d.below(44), one(&d, []int{1, 2, 3, 4, 4, 4}), one(&d, []int{1, 2, 2, 3, 5}))
		_, found := asTold(t, h, d.shuffled(many(h)))
		goes[found]++
		for _, order := range orders(many(h)) {
			fit := Fits(h, order)
			if fit != wantFits(h, order) {
				t.Fatalf("Fits(%v, %v): %v", h, order, fit)
			}
			is[fit]++
			if fit && is[fit]%8 == 0 {
				notWhole(t, h, order)
			}
		}
		if l, found := Find(h); found && (!forward(h, l) || len(l) != many(h)) {
			t.Fatalf("Find(%v): %v does not go by the graph", h, l)
		}
	}
	if is[true] < 3000 || is[false] < 3000 || goes[true] < 1000 || goes[false] < 300 {
		t.Errorf("fit or not: %v; found or not: %v", is, goes)
	}
}

func TestRowsOfMany(t *testing.T) {
	d := dice(17)
	is, goes := map[bool]int{}, map[bool]int{}
	for range 400 {
		h := anyRow(&d, 20+d.below(150), one(&d, []int{8, 16, 32}), one(&d, []int{20, 40, 64}))
		found, _ := Find(h)
		for _, order := range [][]int{found, upTo(many(h)), turned(upTo(many(h))), d.shuffled(many(h))} {
			fit, found := asTold(t, h, order)
			is[fit]++
			goes[found]++
			if !fit {
				continue
			}
			at := d.below(len(order))
			if Fits(h, slices.Delete(slices.Clone(order), at, at+1)) || Fits(h, slices.Insert(slices.Clone(order), at, one(&d, order))) {
				t.Fatalf("Fits(%v, %v), with one left out, or twice, at place %d: true", h, order, at)
			}
		}
	}
	if is[true] < 100 || is[false] < 100 || goes[true] < 100 || goes[false] < 100 {
		t.Errorf("fit or not: %v; found or not: %v", is, goes)
	}
}

// Where each one read what was committed last, whatever goes by the graph fits.
func TestWhatGoesByTheGraphFits(t *testing.T) {
	d := dice(23)
	fit := 0
	for range 2000 {
		h := anyRow(&d, 10+d.below(20), 2+d.below(3), 1+d.below(3))
		for n, e := range h {
			if e.Kind == history.Read {
				h[n].V = last(h[:n], e.X)
			}
		}
		if _, is := Find(h); Opaque(h) != is {
			t.Fatalf("Opaque(%v): %v", h, !is)
		}
		for _, order := range orders(many(h)) {
			if forward(h, order) {
				fit++
				if !Fits(h, order) {
					t.Fatalf("Fits(%v, %v): false", h, order)
				}
			}
		}
	}
	if fit < 3000 {
		t.Errorf("%d fit", fit)
	}
}

func TestLongRows(t *testing.T) {
	for _, ids := range []int{1, 2, 32} {
		h := begins(ids)
		for n := 0; len(h) < 2000; n++ {
			h = append(h, history.Event{Kind: history.Write - n%2, Id: 1 + n%ids, X: n * 5 % 64, V: num(int64(n % 2 * 7))})
		}
		for n := range h {
			if h[n].Kind == history.Read {
				h[n].V = num(0)
			}
		}
		finds(t, h, upTo(ids), true)
		fits(t, h, []string{text(turned(upTo(ids)))}, nil)
		nothing(t, behind(h, history.Event{Kind: history.Commit, Id: 1}), upTo(ids))
		h[1999] = history.Event{Kind: history.Commit, Id: ids}
		asTold(t, h, upTo(ids))
	}
}

// All rows of up to so many events that are Right, out of all events of some
// transactions at one variable.
func TestAllShortRows(t *testing.T) {
	for _, c := range []struct{ ids, many, least int }{{1, 6, 500}, {2, 6, 8000}, {3, 6, 8000}} {
		var events []history.Event
		for id := 1; id <= c.ids; id++ {
			events = append(events, row(strings.ReplaceAll("bI rI.0=0 rI.0=1 wI.0=1 cI aI", "I", strconv.Itoa(id)))...)
		}
		rows := 0
		grow(t, nil, events, c.many, &rows)
		if rows < c.least {
			t.Errorf("%d rows of %d of %d", rows, c.many, c.ids)
		}
	}
}

// grow checks h, which is Right, and all that go on from it.
func grow(t *testing.T, h, events []history.Event, most int, rows *int) {
	*rows++
	want, there := wantFind(h)
	if l, is := Find(h); is != there || !slices.Equal(l, want) || Opaque(h) != (there && wantFits(h, want)) {
		t.Fatalf("%v: %v, %v, %v", h, l, is, Opaque(h))
	}
	for _, order := range orders(many(h)) {
		if is := Fits(h, order); is != wantFits(h, order) {
			t.Fatalf("Fits(%v, %v): %v", h, order, is)
		}
	}
	if most == 0 {
		return
	}
	for _, e := range events {
		if l := behind(h, e); history.Right(l) {
			grow(t, l, events, most-1, rows)
		} else if l, is := Find(l); is || len(l) > 0 || Fits(behind(h, e), want) || Opaque(behind(h, e)) {
			t.Fatalf("%v, and then %v, is not Right", h, e)
		}
	}
}

// What engines of layer 9 do.

// walk is an engine, and the events of it.
type walk struct {
	g    *graph.Engine
	h    []history.Event
	live []int
}

// over takes an Id out that is over, by that Kind of event.
func (w *walk) over(id, kind int) {
	w.h = append(w.h, history.Event{Kind: kind, Id: id})
	w.live = slices.DeleteFunc(w.live, func(other int) bool { return other == id })
}

// anyCall does one call, and notes what comes of it.
func (w *walk) anyCall(d *dice, vars int) {
	kind := d.below(12)
	if kind < 2 || len(w.live) == 0 {
		if id, e := w.g.Begin(); e == api.OK {
			w.h = append(w.h, history.Event{Kind: history.Begin, Id: id})
			w.live = append(w.live, id)
		}
		return
	}
	id, x := one(d, w.live), d.below(vars)
	switch {
	case kind < 6:
		v, e := w.g.Read(id, x)
		if e != api.OK {
			w.over(id, history.Abort)
			return
		}
		w.h = append(w.h, history.Event{Kind: history.Read, Id: id, X: x, V: v})
	case kind < 9:
		v := num(int64(d.below(3)))
		w.g.Write(id, x, v)
		w.h = append(w.h, history.Event{Kind: history.Write, Id: id, X: x, V: v})
	case kind < 11:
		if w.g.Commit(id) == api.OK {
			w.over(id, history.Commit)
			return
		}
		w.over(id, history.Abort)
	default:
		w.g.Abort(id)
		w.over(id, history.Abort)
	}
}

// agrees checks that what happened is Opaque, and that it fits the engine's own
// order.
func (w *walk) agrees(t *testing.T) {
	t.Helper()
	var order []int
	for _, e := range slices.Concat(w.g.Log(), w.g.Rest()) {
		order = append(order, e.Id)
	}
	if !Opaque(w.h) {
		t.Fatalf("%v is not Opaque", w.h)
	}
	if fit, _ := asTold(t, w.h, order); !fit {
		t.Fatalf("Fits(%v, %v): false", w.h, order)
	}
}

func TestEngines(t *testing.T) {
	d := dice(29)
	events, unlike := 0, 0
	for range 200 {
		vars := 1 + d.below(5)
		w := &walk{g: graph.New(2+d.below(6), vars)}
		for len(w.h) < 100 && many(w.h) < 32 {
			w.anyCall(&d, vars)
			if d.below(12) == 0 {
				w.agrees(t)
			}
		}
		w.agrees(t)
		events += len(w.h)
		if l, _ := Find(w.h); !slices.Equal(l, upTo(many(w.h))) {
			unlike++
		}
	}
	if events < 10000 || unlike < 100 {
		t.Errorf("%d events, %d rows that are not in the order of their Begins", events, unlike)
	}
}

// R4: what was asked before does not count, nor the order of maps.
func TestRunsAreAlike(t *testing.T) {
	run := func() ([]int, []bool) {
		d := dice(31)
		var l []int
		var is []bool
		for range 200 {
			h := anyRow(&d, 60, 8, 20)
			order, found := Find(h)
			l, is = append(l, order...), append(is, found, Opaque(h), Fits(h, d.shuffled(many(h))))
		}
		return l, is
	}
	l, is := run()
	for range 5 {
		again, alike := run()
		if !slices.Equal(l, again) || !slices.Equal(is, alike) {
			t.Fatal("two runs are not alike")
		}
	}
}
