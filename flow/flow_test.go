package flow_test

import (
	"math"
	"math/rand"
	"slices"
	"testing"

	"typebar/api"
	"typebar/flow"
	"typebar/wide"
)

// The cells that the tests write out, and a wide sign, which has the halves l1 and r1.
var (
	bl = api.Cell{R: 32}
	ca = api.Cell{R: 97}
	up = api.Cell{R: 94}
	no = api.Cell{R: 65533}
	l1 = api.Cell{R: 20013, K: 1}
	r1 = api.Cell{R: 20013, K: 2}
)

const zh = 20013

// few are signs of one cell and of two, as they are and in other forms, and numbers that are no signs.
var few = []rune{97, 32, zh, 1, 127, 128, -1, 55296}

// many are signs and other numbers at which something changes, and the ends of the type.
var many = []rune{
	math.MinInt32, math.MinInt32 + 1, -zh, -97, -1, 0, 1, 27, 31, 32, 97, 126, 127, 128, 159, 160, 4351, 4352, 4447, 4448, 12350, 12351, zh,
	55203, 55295, 55296, 57343, 57344, 65376, 65377, 65533, 65535, 65536, 128512, 131071, 131072, 262141, 262142, 1114111, 1114112,
	math.MaxInt32 - 1, math.MaxInt32,
}

// farOff are numbers that no width and no place may be.
var farOff = []int{
	math.MinInt, math.MinInt + 1, -(1 << 32), -(1 << 32) + 2, -1 << 31, -10000, -9999, -80, -2, -1, 10000, 10001, 1 << 16, 1 << 31,
	1 << 32, 1<<32 + 2, 1<<32 + 80, math.MaxInt - 1, math.MaxInt,
}

// edgePlaces are the first and the last place that there may be, some beside them, and where rows of w begin and end.
func edgePlaces(w int) []int {
	last := 9999 / w * w // where the row of the last place begins
	l := []int{0, 1, 2, w - 2, w - 1, w, w + 1, 2*w - 2, 2*w - 1, 2 * w, last - 2, last - 1, last, last + 1, 9996, 9997, 9998, 9999}
	for i := range l {
		l[i] = min(l[i], 9999)
	}
	return l
}

// tape is the cells of all rows from the one on that the first place is in: what the chapter says, by filling row after row.
type tape struct {
	w     int
	ahead int // the places in the rows ahead of these
	rows  [][]api.Cell
}

func newTape(w, at int) *tape {
	t := &tape{w: w}
	for t.ahead+w <= at {
		t.ahead += w
	}
	t.rows = append(t.rows, slices.Repeat([]api.Cell{bl}, at-t.ahead))
	return t
}

// place is the place behind all that the tape has, in its last row.
func (t *tape) place() int {
	return t.ahead + (len(t.rows)-1)*t.w + len(t.rows[len(t.rows)-1])
}

// lay lays a sign, and tells where it begins, and the place behind it.
func (t *tape) lay(r rune) (int, int) {
	c := wide.Cells(r)
	y := len(t.rows) - 1
	if len(t.rows[y])+len(c) > t.w {
		for len(t.rows[y]) < t.w {
			t.rows[y] = append(t.rows[y], bl)
		}
		t.rows = append(t.rows, nil)
		y++
	}
	from := t.place()
	t.rows[y] = append(t.rows[y], c...)
	return from, t.place()
}

// limits is what is wrong with a width and a place, word by word.
func limits(w, at int) api.Errno {
	if w < 2 || w > 80 {
		return api.ErrLimit
	}
	if at < 0 || at > 9999 {
		return api.ErrArg
	}
	return api.OK
}

// next is P4.1, word by word.
func next(w, at int, r rune) (int, int, api.Errno) {
	if e := limits(w, at); e != api.OK {
		return 0, 0, e
	}
	y := 0 // the row that at is in: all rows ahead of it end ahead of at
	for (y+1)*w <= at {
		y++
	}
	n := len(wide.Cells(r))
	if at+n <= (y+1)*w {
		return at, at + n, api.OK
	}
	return (y + 1) * w, (y+1)*w + n, api.OK
}

// layAll is P4.2 and P4.3, word by word.
func layAll(w, at int, l []rune) (places []int, end int, cells []api.Cell, e api.Errno) {
	if e := limits(w, at); e != api.OK {
		return nil, 0, nil, e
	}
	if len(l) > 500 {
		return nil, 0, nil, api.ErrFull
	}
	t := newTape(w, at)
	end = at
	for _, r := range l {
		var from int
		from, end = t.lay(r)
		places = append(places, from)
	}
	return places, end, slices.Concat(t.rows...)[at-t.ahead:], api.OK
}

// hold holds Lay and Cells of these arguments against layAll.
func hold(t *testing.T, w, at int, l []rune) {
	t.Helper()
	places, end, cells, err := layAll(w, at, l)
	p, n, e := flow.Lay(w, at, l)
	if !slices.Equal(p, places) || n != end || e != err {
		t.Fatalf("P4.2: Lay(%d, %d, %v) = %v, %d, %d, want %v, %d, %d", w, at, l, p, n, e, places, end, err)
	}
	c, e := flow.Cells(w, at, l)
	if !slices.Equal(c, cells) || e != err {
		t.Fatalf("P4.3: Cells(%d, %d, %v) = %v, %d, want %v, %d", w, at, l, c, e, cells, err)
	}
	if err != api.OK && (p != nil || c != nil) {
		t.Fatalf("R1: Lay or Cells of %d, %d and %d signs tell more than error %d", w, at, len(l), err)
	}
}

// allOf calls f with all lists of n of these signs.
func allOf(n int, signs []rune, f func([]rune)) {
	if n == 0 {
		f(nil)
		return
	}
	for _, r := range signs {
		allOf(n-1, signs, func(l []rune) { f(append(slices.Clone(l), r)) })
	}
}

// mixed tells n of these signs, which ones by the seed alone.
func mixed(n int, signs []rune, seed int64) []rune {
	src := rand.New(rand.NewSource(seed))
	l := make([]rune, n)
	for i := range l {
		l[i] = signs[src.Intn(len(signs))]
	}
	return l
}

// repeat tells n times this sign.
func repeat(r rune, n int) []rune {
	return slices.Repeat([]rune{r}, n)
}

func TestNextOfAllWidthsAndPlaces(t *testing.T) { // P4.1, R1
	for w := -3; w <= 84; w++ {
		for at := -5; at <= 10005; at++ {
			for _, r := range few {
				from, behind, e := flow.Next(w, at, r)
				if f, b, err := next(w, at, r); from != f || behind != b || e != err {
					t.Fatalf("P4.1: Next(%d, %d, %d) = %d, %d, %d, want %d, %d, %d", w, at, r, from, behind, e, f, b, err)
				}
			}
		}
	}
}

func TestNextOfAllSigns(t *testing.T) { // P4.1, R3
	check := func(r rune) {
		for _, x := range [][2]int{{2, 0}, {2, 1}, {3, 0}, {3, 1}, {3, 2}, {80, 77}, {80, 78}, {80, 79}, {80, 80}, {80, 9999}} {
			from, behind, e := flow.Next(x[0], x[1], r)
			if f, b, err := next(x[0], x[1], r); from != f || behind != b || e != err {
				t.Fatalf("P4.1: Next(%d, %d, %d) = %d, %d, %d, want %d, %d, %d", x[0], x[1], r, from, behind, e, f, b, err)
			}
		}
	}
	for r := rune(-70000); r <= 1200000; r++ {
		check(r)
	}
	for _, r := range many {
		check(r)
	}
}

func TestNextOfEdges(t *testing.T) { // P4.1, written out
	for _, x := range []struct {
		w, at        int
		r            rune
		from, behind int
	}{
		// the last two columns of a row, and the first ones of the next
		{3, 0, 97, 0, 1}, {3, 1, 97, 1, 2}, {3, 2, 97, 2, 3}, {3, 3, 97, 3, 4},
		{3, 0, zh, 0, 2}, {3, 1, zh, 1, 3}, {3, 2, zh, 3, 5}, {3, 3, zh, 3, 5}, {3, 4, zh, 4, 6}, {3, 5, zh, 6, 8},
		// the least width and the greatest one
		{2, 0, 97, 0, 1}, {2, 1, 97, 1, 2}, {2, 0, zh, 0, 2}, {2, 1, zh, 2, 4}, {2, 2, zh, 2, 4}, {2, 3, zh, 4, 6},
		{80, 78, 97, 78, 79}, {80, 79, 97, 79, 80}, {80, 78, zh, 78, 80}, {80, 79, zh, 80, 82}, {80, 80, zh, 80, 82}, {80, 159, zh, 160, 162},
		{79, 77, zh, 77, 79}, {79, 78, zh, 79, 81}, {79, 78, 97, 78, 79},
		// all that takes two cells is held together, all that takes one is not
		{3, 2, 0, 3, 5}, {3, 2, 1, 3, 5}, {3, 2, 31, 3, 5}, {3, 2, 127, 3, 5}, {3, 2, 128512, 3, 5}, {3, 1, 1, 1, 3}, {3, 1, 127, 1, 3},
		{3, 2, 32, 2, 3}, {3, 2, 128, 2, 3}, {3, 2, 159, 2, 3}, {3, 2, 65533, 2, 3}, {3, 2, 228, 2, 3},
		// numbers that are no signs are shown as Bad is
		{3, 2, -1, 2, 3}, {3, 2, 55296, 2, 3}, {3, 2, 57343, 2, 3}, {3, 2, 1114112, 2, 3}, {3, 2, math.MinInt32, 2, 3}, {3, 2, math.MaxInt32, 2, 3},
		// the last place: what begins behind it, or ends there, may be above it
		{80, 9998, zh, 9998, 10000}, {80, 9999, 97, 9999, 10000}, {80, 9999, zh, 10000, 10002}, {2, 9999, zh, 10000, 10002}, {2, 9999, 97, 9999, 10000},
		{3, 9999, zh, 9999, 10001}, {3, 9998, zh, 9999, 10001}, {7, 9999, zh, 9999, 10001},
	} {
		if from, behind, e := flow.Next(x.w, x.at, x.r); from != x.from || behind != x.behind || e != api.OK {
			t.Errorf("P4.1: Next(%d, %d, %d) = %d, %d, %d, want %d, %d", x.w, x.at, x.r, from, behind, e, x.from, x.behind)
		}
	}
}

func TestWrongInputs(t *testing.T) { // P4.1 to P4.3, R1, R3
	lists := [][]rune{nil, {97}, {97, zh, 1, -1}, repeat(97, 500), repeat(zh, 501), repeat(97, 5000)}
	check := func(w, at int, err api.Errno) {
		t.Helper()
		for _, r := range many {
			if from, behind, e := flow.Next(w, at, r); from != 0 || behind != 0 || e != err {
				t.Errorf("P4.1: Next(%d, %d, %d) = %d, %d, %d, want error %d", w, at, r, from, behind, e, err)
			}
		}
		for _, l := range lists {
			if p, n, e := flow.Lay(w, at, l); p != nil || n != 0 || e != err {
				t.Errorf("P4.2: Lay(%d, %d) of %d signs = %v, %d, %d, want error %d", w, at, len(l), p, n, e, err)
			}
			if c, e := flow.Cells(w, at, l); c != nil || e != err {
				t.Errorf("P4.3: Cells(%d, %d) of %d signs = %v, %d, want error %d", w, at, len(l), c, e, err)
			}
		}
	}
	for _, w := range append([]int{1, 0, -1, 81, 82}, farOff...) {
		check(w, 0, api.ErrLimit)
		check(w, 9999, api.ErrLimit)
		for _, at := range farOff {
			check(w, at, api.ErrLimit) // the width's error is named first
		}
	}
	for _, at := range farOff {
		check(2, at, api.ErrArg)
		check(3, at, api.ErrArg)
		check(80, at, api.ErrArg) // too many signs are named behind it
	}
}

func TestTooManySigns(t *testing.T) { // P4.2, P4.3, R1
	for _, n := range []int{501, 502, 1000, 1 << 16} {
		for _, r := range []rune{97, zh, -1} {
			l := repeat(r, n)
			for _, x := range [][2]int{{2, 0}, {80, 0}, {2, 9999}, {80, 9999}} {
				if p, end, e := flow.Lay(x[0], x[1], l); p != nil || end != 0 || e != api.ErrFull {
					t.Errorf("P4.2: Lay(%d, %d) of %d signs = %v, %d, %d", x[0], x[1], n, p, end, e)
				}
				if c, e := flow.Cells(x[0], x[1], l); c != nil || e != api.ErrFull {
					t.Errorf("P4.3: Cells(%d, %d) of %d signs = %v, %d", x[0], x[1], n, c, e)
				}
			}
		}
	}
}

func TestLayAndCellsOfAllShortRows(t *testing.T) { // P4.2, P4.3
	for n := range 5 {
		allOf(n, few, func(l []rune) {
			for _, w := range []int{1, 2, 3, 4, 5, 80, 81} {
				for at := -1; at <= 2*min(w, 5)+1; at++ {
					hold(t, w, at, l)
				}
				for at := 9997; at <= 10000; at++ {
					hold(t, w, at, l)
				}
			}
		})
	}
	for n := range 8 {
		allOf(n, []rune{97, zh}, func(l []rune) {
			for w := 2; w <= 9; w++ {
				for at := range 2 * w {
					hold(t, w, at, l)
				}
			}
		})
	}
}

func TestLayAndCellsOfLongRows(t *testing.T) { // P4.2, P4.3
	for i, n := range []int{0, 1, 2, 80, 81, 199, 200, 498, 499, 500, 501, 502} {
		for j, signs := range [][]rune{{97}, {zh}, {1}, {97, zh}, few, many} {
			l := mixed(n, signs, int64(10*i+j))
			for w := 1; w <= 81; w++ {
				for _, at := range edgePlaces(w) {
					hold(t, w, at, l)
				}
			}
		}
	}
}

func TestLayOfEdges(t *testing.T) { // P4.2, written out
	for i, x := range []struct {
		w, at  int
		l      []rune
		places []int
		end    int
	}{
		{3, 0, []rune{97, 98, zh}, []int{0, 1, 3}, 5}, // the third example of the whole
		// an empty row ends where it begins, wherever that is
		{2, 0, nil, nil, 0}, {2, 1, nil, nil, 1}, {3, 7, []rune{}, nil, 7}, {80, 79, nil, nil, 79}, {80, 9999, nil, nil, 9999}, {2, 9999, nil, nil, 9999},
		// one sign, in the last two columns
		{4, 2, []rune{97}, []int{2}, 3}, {4, 3, []rune{97}, []int{3}, 4}, {4, 2, []rune{zh}, []int{2}, 4}, {4, 3, []rune{zh}, []int{4}, 6},
		// several, of one cell and of two
		{4, 0, []rune{97, zh, 98, zh}, []int{0, 1, 3, 4}, 6}, {4, 3, []rune{zh, zh, zh}, []int{4, 6, 8}, 10},
		{3, 0, []rune{zh, zh, zh}, []int{0, 3, 6}, 8}, {3, 1, []rune{zh, zh, zh}, []int{1, 3, 6}, 8}, {3, 2, []rune{zh, 97, zh}, []int{3, 5, 6}, 8},
		{2, 1, []rune{97, zh, 97, 97, zh}, []int{1, 2, 4, 5, 6}, 8}, {2, 1, []rune{zh, 97, zh}, []int{2, 4, 6}, 8},
		{5, 3, []rune{1, 127, 27, 9}, []int{3, 5, 7, 10}, 12}, {5, 4, []rune{-1, 55296, 1114112, 128}, []int{4, 5, 6, 7}, 8},
		{80, 78, []rune{97, zh, 97}, []int{78, 80, 82}, 83}, {80, 79, []rune{97, zh, 97}, []int{79, 80, 82}, 83}, {80, 77, []rune{97, zh, 97}, []int{77, 78, 80}, 81},
		// places above the last one from which may be laid
		{80, 9999, []rune{97, 97, zh}, []int{9999, 10000, 10001}, 10003}, {80, 9999, []rune{zh, 97}, []int{10000, 10002}, 10003},
		{2, 9999, []rune{zh, zh}, []int{10000, 10002}, 10004}, {4, 9998, []rune{97, zh, zh, zh}, []int{9998, 10000, 10002, 10004}, 10006},
	} {
		if p, end, e := flow.Lay(x.w, x.at, x.l); !slices.Equal(p, x.places) || end != x.end || e != api.OK {
			t.Errorf("P4.2: %d: %v, %d, %d, want %v, %d", i, p, end, e, x.places, x.end)
		}
	}
	for _, x := range []struct {
		w, at, first, last, end int
		l                       []rune
	}{
		{2, 0, 0, 998, 1000, repeat(zh, 500)}, {2, 0, 0, 499, 500, repeat(97, 500)}, {3, 0, 0, 1497, 1499, repeat(zh, 500)}, {80, 0, 0, 499, 500, repeat(97, 500)},
		{80, 9999, 10000, 10998, 11000, repeat(zh, 500)}, {80, 9999, 9999, 10498, 10499, repeat(97, 500)}, {3, 9999, 9999, 11496, 11498, repeat(zh, 500)},
		{2, 0, 0, 996, 998, repeat(zh, 499)}, {2, 9999, 10000, 10998, 11000, repeat(127, 500)},
	} {
		p, end, e := flow.Lay(x.w, x.at, x.l)
		if e != api.OK || len(p) != len(x.l) || p[0] != x.first || p[len(p)-1] != x.last || end != x.end {
			t.Errorf("P4.2: Lay(%d, %d) of %d times %d ends at %d, with error %d: %v", x.w, x.at, len(x.l), x.l[0], end, e, p)
		}
	}
}

func TestCellsOfEdges(t *testing.T) { // P4.3, written out
	for i, x := range []struct {
		w, at int
		l     []rune
		cells []api.Cell
	}{
		{3, 0, []rune{97, 97, zh}, []api.Cell{ca, ca, bl, l1, r1}},
		{2, 0, nil, nil}, {2, 1, nil, nil}, {80, 9999, []rune{}, nil},
		{4, 2, []rune{97}, []api.Cell{ca}}, {4, 3, []rune{97}, []api.Cell{ca}}, {4, 2, []rune{zh}, []api.Cell{l1, r1}},
		// the first place of all may be one that is left free
		{4, 3, []rune{zh}, []api.Cell{bl, l1, r1}}, {2, 1, []rune{zh, 97, zh}, []api.Cell{bl, l1, r1, ca, bl, l1, r1}}, {80, 79, []rune{zh}, []api.Cell{bl, l1, r1}},
		{3, 0, []rune{zh, zh, 97, zh}, []api.Cell{l1, r1, bl, l1, r1, ca, l1, r1}}, {3, 1, []rune{zh, zh}, []api.Cell{l1, r1, l1, r1}},
		// what is laid in a row's last column is no free place
		{3, 2, []rune{97, zh}, []api.Cell{ca, l1, r1}}, {3, 2, []rune{32, zh}, []api.Cell{bl, l1, r1}}, {3, 2, []rune{zh, 32}, []api.Cell{bl, l1, r1, bl}},
		{3, 2, []rune{1, 97}, []api.Cell{bl, up, {R: 65}, ca}}, {3, 1, []rune{127, 97}, []api.Cell{up, {R: 63}, ca}},
		{3, 2, []rune{-1, 55296, 1114112, 128}, []api.Cell{no, no, no, no}}, {2, 0, []rune{math.MinInt32, math.MaxInt32}, []api.Cell{no, no}},
		{80, 9999, []rune{zh, 97}, []api.Cell{bl, l1, r1, ca}}, {80, 9999, []rune{97, zh}, []api.Cell{ca, l1, r1}}, {80, 9998, []rune{zh, zh}, []api.Cell{l1, r1, l1, r1}},
	} {
		if c, e := flow.Cells(x.w, x.at, x.l); !slices.Equal(c, x.cells) || e != api.OK {
			t.Errorf("P4.3: %d: %v, %d, want %v", i, c, e, x.cells)
		}
	}
	for _, x := range []struct {
		w, at int
		l     []rune
		cells []api.Cell
	}{
		{2, 0, repeat(zh, 500), slices.Repeat([]api.Cell{l1, r1}, 500)}, {80, 9999, repeat(97, 500), slices.Repeat([]api.Cell{ca}, 500)},
		{3, 0, repeat(zh, 500), slices.Repeat([]api.Cell{l1, r1, bl}, 500)[:1499]}, {2, 1, repeat(zh, 500), slices.Insert(slices.Repeat([]api.Cell{l1, r1}, 500), 0, bl)},
	} {
		if c, e := flow.Cells(x.w, x.at, x.l); !slices.Equal(c, x.cells) || e != api.OK {
			t.Errorf("P4.3: Cells(%d, %d) of %d times %d = %v, %d", x.w, x.at, len(x.l), x.l[0], c, e)
		}
	}
}

// someRows calls f with widths, places and lists of signs that may be laid.
func someRows(f func(w, at int, l []rune)) {
	for _, w := range []int{2, 3, 4, 5, 7, 79, 80} {
		for n := range 5 {
			allOf(n, []rune{97, zh, 127, -1}, func(l []rune) {
				for _, at := range []int{0, 1, 2, w - 2, w - 1, w, 9998, 9999} {
					f(w, at, l)
				}
			})
		}
		for i, n := range []int{79, 80, 160, 499, 500} {
			for _, at := range edgePlaces(w) {
				f(w, at, mixed(n, few, int64(i)))
			}
		}
	}
}

func TestPlacesRiseAndNoSignIsParted(t *testing.T) { // P4.4
	someRows(func(w, at int, l []rune) {
		p, end, e := flow.Lay(w, at, l)
		if e != api.OK || len(p) != len(l) {
			t.Fatalf("P4.4: Lay(%d, %d, %v) = %v, %d, %d", w, at, l, p, end, e)
		}
		behind := at
		for i, from := range p {
			n := len(wide.Cells(l[i]))
			if from < behind {
				t.Fatalf("P4.4: Lay(%d, %d, %v) = %v: place %d does not rise", w, at, l, p, i)
			}
			if from/w != (from+n-1)/w {
				t.Fatalf("P4.4: Lay(%d, %d, %v) = %v: sign %d is parted", w, at, l, p, i)
			}
			// one place is free, and that in the last column, ahead of two cells
			if free := from - behind; free > 0 && (free > 1 || behind%w != w-1 || n != 2) {
				t.Fatalf("P4.4: Lay(%d, %d, %v) = %v: %d places are free ahead of %d", w, at, l, p, free, i)
			}
			behind = from + n
		}
		if end != behind {
			t.Fatalf("P4.4: Lay(%d, %d, %v) = %v, %d: it does not end behind the last one", w, at, l, p, end)
		}
	})
}

func TestCellsStandAtTheirPlaces(t *testing.T) { // P4.3, P4.4
	someRows(func(w, at int, l []rune) {
		p, end, _ := flow.Lay(w, at, l)
		c, e := flow.Cells(w, at, l)
		if e != api.OK || len(c) != end-at {
			t.Fatalf("P4.3: Cells(%d, %d, %v) = %v, %d: %d places", w, at, l, c, e, end-at)
		}
		taken := make([]bool, len(c))
		for i, r := range l {
			for j, cell := range wide.Cells(r) {
				k := p[i] + j - at
				if taken[k] || c[k] != cell {
					t.Fatalf("P4.3: Cells(%d, %d, %v) = %v: sign %d is not there", w, at, l, c, i)
				}
				taken[k] = true
			}
		}
		for k, yes := range taken {
			if !yes && c[k] != bl {
				t.Fatalf("P4.3: Cells(%d, %d, %v) = %v: place %d is not blank", w, at, l, c, at+k)
			}
		}
	})
}

func TestTwoRowsAreLaidAsEachIs(t *testing.T) { // P4.4
	someRows(func(w, at int, l []rune) {
		p, end, _ := flow.Lay(w, at, l)
		c, _ := flow.Cells(w, at, l)
		for cut := range len(l) + 1 {
			if len(l) > 8 && cut%61 != 0 && cut != len(l) {
				continue
			}
			p1, end1, e1 := flow.Lay(w, at, l[:cut])
			c1, _ := flow.Cells(w, at, l[:cut])
			if end1 > 9999 {
				continue // nothing is laid from there on
			}
			p2, end2, e2 := flow.Lay(w, end1, l[cut:])
			c2, _ := flow.Cells(w, end1, l[cut:])
			if e1 != api.OK || e2 != api.OK || end2 != end || !slices.Equal(slices.Concat(p1, p2), p) || !slices.Equal(slices.Concat(c1, c2), c) {
				t.Fatalf("P4.4: %v, from %d on, in rows of %d, cut at %d: %v, %v, %v, %v, but whole %v, %v", l, at, w, cut, p1, p2, c1, c2, p, c)
			}
		}
	})
}

func TestLayGoesOnAsNextTells(t *testing.T) { // P4.1, P4.2
	someRows(func(w, at int, l []rune) {
		p, end, _ := flow.Lay(w, at, l)
		next := at
		for i, r := range l {
			if next > 9999 {
				return
			}
			from, behind, e := flow.Next(w, next, r)
			if from != p[i] || e != api.OK {
				t.Fatalf("P4.2: Lay(%d, %d, %v) = %v, but Next tells %d of sign %d", w, at, l, p, from, i)
			}
			next = behind
		}
		if next != end {
			t.Fatalf("P4.2: Lay(%d, %d, %v) = %v, %d, but Next ends at %d", w, at, l, p, end, next)
		}
	})
}

func TestArgumentsAndAnswersStayAsTheyAre(t *testing.T) { // R2, R4
	// A list with more room behind it: whoever appends to it, or writes in it, is seen.
	room := mixed(600, few, 9)
	held := slices.Clone(room)
	for _, n := range []int{0, 1, 7, 500, 501} {
		l := room[:n]
		for _, x := range [][2]int{{2, 0}, {3, 2}, {80, 9999}, {81, 0}, {3, -1}} {
			p, end, e := flow.Lay(x[0], x[1], l)
			c, _ := flow.Cells(x[0], x[1], l)
			heldPlaces, heldCells := slices.Clone(p), slices.Clone(c)
			// Answers are new memory: what is written in one is seen nowhere else.
			q, _, _ := flow.Lay(x[0], x[1], l)
			d, _ := flow.Cells(x[0], x[1], l)
			for i := range q {
				q[i] = -7
			}
			for i := range d {
				d[i] = api.Cell{R: 7, K: 7}
			}
			if !slices.Equal(p, heldPlaces) || !slices.Equal(c, heldCells) {
				t.Fatalf("R2: what came out of %d signs was changed later", n)
			}
			again, endAgain, eAgain := flow.Lay(x[0], x[1], l)
			cellsAgain, _ := flow.Cells(x[0], x[1], l)
			if !slices.Equal(again, p) || endAgain != end || eAgain != e || !slices.Equal(cellsAgain, c) {
				t.Fatalf("R2: %d signs are laid in another way later", n)
			}
		}
	}
	if !slices.Equal(room, held) {
		t.Fatal("R2: what was handed in was changed")
	}
}
