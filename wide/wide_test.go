package wide_test

import (
	"math"
	"slices"
	"testing"

	"typebar/api"
	"typebar/wide"
)

// ends are the first and the last number of each range of wide signs, as the chapter lists them.
var ends = [][2]rune{
	{4352, 4447}, {11904, 12350}, {12353, 42191}, {44032, 55203}, {63744, 64255}, {65072, 65135},
	{65281, 65376}, {65504, 65510}, {127744, 128591}, {129280, 129535}, {131072, 262141},
}

// edges are the numbers around each other one at which something changes, and the ends of the type.
var edges = []rune{
	math.MinInt32, math.MinInt32 + 1, -1114112, -65533, -65, -64, -2, -1,
	0, 1, 2, 30, 31, 32, 33, 63, 64, 94, 95, 96, 97, 125, 126, 127, 128, 129, 158, 159, 160, 161, 255, 256,
	20013, 55294, 55295, 55296, 55297, 57342, 57343, 57344, 57345, 65532, 65533, 65534, 65535, 65536,
	1114110, 1114111, 1114112, 1114113, math.MaxInt32 - 1, math.MaxInt32,
}

// kinds are those that there are, those beside them, and the ends of the type.
var kinds = []int{
	api.Whole, api.LeftHalf, api.RightHalf, -2, -1, 3, 4, 1 << 8, 1<<8 + 1, 1 << 16, 1 << 32, 1<<32 + 1, 1<<32 + 2,
	math.MinInt, math.MaxInt,
}

// allEdges are the edges, and the ends of each range of wide signs with those beside them.
func allEdges() []rune {
	l := slices.Clone(edges)
	for _, x := range ends {
		l = append(l, x[0]-1, x[0], x[0]+1, x[1]-1, x[1], x[1]+1)
	}
	return l
}

// book has what the chapter says, number by number.
type book struct {
	shown map[rune]bool
	wide  map[rune]bool
}

func newBook() book {
	b := book{shown: map[rune]bool{}, wide: map[rune]bool{}}
	fill := func(m map[rune]bool, first, last rune) {
		for r := first; r <= last; r++ {
			m[r] = true
		}
	}
	fill(b.shown, 32, 126)
	fill(b.shown, 160, 55295)
	fill(b.shown, 57344, 1114111)
	for _, x := range ends {
		fill(b.wide, x[0], x[1])
	}
	return b
}

// cells is P2.2, word by word.
func (b book) cells(r rune) []api.Cell {
	if r >= 0 && r <= 31 {
		return []api.Cell{{R: '^', K: 0}, {R: r + 64, K: 0}}
	}
	if r == 127 {
		return []api.Cell{{R: '^', K: 0}, {R: '?', K: 0}}
	}
	if !b.shown[r] {
		return []api.Cell{{R: 65533, K: 0}}
	}
	if b.wide[r] {
		return []api.Cell{{R: r, K: 1}, {R: r, K: 2}}
	}
	return []api.Cell{{R: r, K: 0}}
}

// is is P2.3, word by word.
func (b book) is(c api.Cell) bool {
	return b.shown[c.R] && (b.wide[c.R] && (c.K == 1 || c.K == 2) || !b.wide[c.R] && c.K == 0)
}

// numbers calls f with all signs, with many numbers that are none, and with the ends of the type.
func numbers(f func(rune)) {
	for r := rune(-300000); r <= 1500000; r++ {
		f(r)
	}
	for _, r := range allEdges() {
		f(r)
	}
}

func TestShownAndWideOfAllSigns(t *testing.T) { // P2.1, R3
	b := newBook()
	numbers(func(r rune) {
		if wide.Shown(r) != b.shown[r] {
			t.Fatalf("P2.1: Shown(%d) is not %v", r, b.shown[r])
		}
		if wide.Wide(r) != b.wide[r] {
			t.Fatalf("P2.1: Wide(%d) is not %v", r, b.wide[r])
		}
	})
}

func TestShownOfEdges(t *testing.T) { // P2.1, written out
	for _, r := range []rune{32, 33, 65, 126, 160, 161, 255, 4352, 20013, 55295, 57344, 65533, 65535, 65536, 1114110, 1114111} {
		if !wide.Shown(r) {
			t.Errorf("P2.1: Shown(%d) is false", r)
		}
	}
	for _, r := range []rune{math.MinInt32, -33, -1, 0, 1, 10, 31, 127, 128, 158, 159, 55296, 56000, 57343, 1114112, math.MaxInt32} {
		if wide.Shown(r) {
			t.Errorf("P2.1: Shown(%d) is true", r)
		}
	}
}

func TestWideOfEdges(t *testing.T) { // P2.1, written out
	for _, x := range ends {
		if !wide.Wide(x[0]) || !wide.Wide(x[1]) || !wide.Wide((x[0]+x[1])/2) {
			t.Errorf("P2.1: not all from %d to %d are wide", x[0], x[1])
		}
		if wide.Wide(x[0]-1) || wide.Wide(x[1]+1) {
			t.Errorf("P2.1: %d or %d is wide", x[0]-1, x[1]+1)
		}
	}
	for _, r := range []rune{
		math.MinInt32, -20013, -4352, -1, 0, 31, 32, 65, 127, 160, 4351, 4448, 11903, 12351, 12352, 42192, 44031, 55204, 55296, 57343,
		63743, 64256, 65071, 65136, 65280, 65377, 65503, 65511, 65533, 127743, 128592, 129279, 129536, 131071, 262142, 262143, 1114111,
		1114112, math.MaxInt32,
	} {
		if wide.Wide(r) {
			t.Errorf("P2.1: Wide(%d) is true", r)
		}
	}
}

func TestCellsAndWidthOfAllSigns(t *testing.T) { // P2.2, R3
	b := newBook()
	numbers(func(r rune) {
		want := b.cells(r)
		if l := wide.Cells(r); !slices.Equal(l, want) {
			t.Fatalf("P2.2: Cells(%d) = %v, want %v", r, l, want)
		}
		if n := wide.Width(r); n != len(want) {
			t.Fatalf("P2.2: Width(%d) = %d, want %d", r, n, len(want))
		}
	})
}

func TestCellsOfEdges(t *testing.T) { // P2.2, written out
	bad := []api.Cell{{R: 65533}}
	for _, x := range []struct {
		r rune
		l []api.Cell
	}{
		{0, []api.Cell{{R: 94}, {R: 64}}}, {1, []api.Cell{{R: 94}, {R: 65}}}, {10, []api.Cell{{R: 94}, {R: 74}}},
		{26, []api.Cell{{R: 94}, {R: 90}}}, {27, []api.Cell{{R: 94}, {R: 91}}}, {31, []api.Cell{{R: 94}, {R: 95}}},
		{127, []api.Cell{{R: 94}, {R: 63}}},
		{32, []api.Cell{{R: 32}}}, {94, []api.Cell{{R: 94}}}, {97, []api.Cell{{R: 97}}}, {126, []api.Cell{{R: 126}}},
		{160, []api.Cell{{R: 160}}}, {228, []api.Cell{{R: 228}}}, {4351, []api.Cell{{R: 4351}}},
		{12351, []api.Cell{{R: 12351}}}, {12352, []api.Cell{{R: 12352}}}, {65533, bad}, {65534, []api.Cell{{R: 65534}}},
		{262142, []api.Cell{{R: 262142}}}, {1114111, []api.Cell{{R: 1114111}}},
		{4352, []api.Cell{{R: 4352, K: 1}, {R: 4352, K: 2}}}, {20013, []api.Cell{{R: 20013, K: 1}, {R: 20013, K: 2}}},
		{128512, []api.Cell{{R: 128512, K: 1}, {R: 128512, K: 2}}}, {262141, []api.Cell{{R: 262141, K: 1}, {R: 262141, K: 2}}},
		{math.MinInt32, bad}, {-64, bad}, {-1, bad}, {128, bad}, {159, bad}, {55296, bad}, {57343, bad}, {1114112, bad}, {math.MaxInt32, bad},
	} {
		if l := wide.Cells(x.r); !slices.Equal(l, x.l) {
			t.Errorf("P2.2: Cells(%d) = %v, want %v", x.r, l, x.l)
		}
		if n := wide.Width(x.r); n != len(x.l) {
			t.Errorf("P2.2: Width(%d) = %d, want %d", x.r, n, len(x.l))
		}
	}
}

func TestIsOfAllCells(t *testing.T) { // P2.3, R3
	b := newBook()
	numbers(func(r rune) {
		for _, k := range kinds {
			c := api.Cell{R: r, K: k}
			if wide.Is(c) != b.is(c) {
				t.Fatalf("P2.3: Is(%v) is not %v", c, b.is(c))
			}
		}
	})
}

func TestIsOfEdges(t *testing.T) { // P2.3, written out
	for _, c := range []api.Cell{{R: 32}, {R: 97}, {R: 126}, {R: 160}, {R: 65533}, {R: 12351}, {R: 1114111}, {R: 20013, K: 1}, {R: 20013, K: 2}, {R: 262141, K: 2}} {
		if !wide.Is(c) {
			t.Errorf("P2.3: Is(%v) is false", c)
		}
	}
	for _, c := range []api.Cell{
		{}, {R: 31}, {R: 127}, {R: 159}, {R: -1}, {R: 55296}, {R: 1114112}, {R: math.MinInt32}, {R: math.MaxInt32},
		{R: 1, K: 1}, {R: -1, K: 1}, {R: 55296, K: 2}, {R: 1114112, K: 1},
		{R: 97, K: 1}, {R: 97, K: 2}, {R: 97, K: 3}, {R: 97, K: -1}, {R: 12351, K: 1}, {R: 65533, K: 1}, {R: 262142, K: 2},
		{R: 20013}, {R: 20013, K: 3}, {R: 20013, K: -1}, {R: 20013, K: math.MinInt}, {R: 20013, K: math.MaxInt}, {R: 97, K: math.MinInt},
	} {
		if wide.Is(c) {
			t.Errorf("P2.3: Is(%v) is true", c)
		}
	}
}

func TestRowOfEdges(t *testing.T) { // P2.3, written out
	for _, x := range []struct {
		l []rune
		w []api.Cell
	}{
		{nil, nil}, {[]rune{}, nil}, {[]rune{97}, []api.Cell{{R: 97}}},
		{[]rune{97, 20013, 98}, []api.Cell{{R: 97}, {R: 20013, K: 1}, {R: 20013, K: 2}, {R: 98}}},
		{[]rune{20013, 1, 127, -1}, []api.Cell{{R: 20013, K: 1}, {R: 20013, K: 2}, {R: 94}, {R: 65}, {R: 94}, {R: 63}, {R: 65533}}},
		{[]rune{55296, 55296, 32}, []api.Cell{{R: 65533}, {R: 65533}, {R: 32}}},
	} {
		if l := wide.Row(x.l); !slices.Equal(l, x.w) {
			t.Errorf("P2.3: Row(%v) = %v, want %v", x.l, l, x.w)
		}
	}
}

func TestRowOfAllSigns(t *testing.T) { // P2.3, R1
	b := newBook()
	var l []rune
	var want []api.Cell
	numbers(func(r rune) {
		l = append(l, r)
		want = append(want, b.cells(r)...)
	})
	if got := wide.Row(l); !slices.Equal(got, want) {
		t.Fatalf("P2.3: Row of %d numbers has %d cells, want %d, or others", len(l), len(got), len(want))
	}
}

func TestWhatIsShownIsRight(t *testing.T) { // P2.4
	numbers(func(r rune) {
		l := wide.Cells(r)
		if len(l) != 1 && len(l) != 2 {
			t.Fatalf("P2.4: Cells(%d) = %v", r, l)
		}
		for i, c := range l {
			if !wide.Is(c) {
				t.Fatalf("P2.4: Cells(%d) = %v, of which %v is not right", r, l, c)
			}
			left, right := c.K == api.LeftHalf, c.K == api.RightHalf
			if left && (i+1 == len(l) || l[i+1] != api.Cell{R: c.R, K: api.RightHalf}) {
				t.Fatalf("P2.4: Cells(%d) = %v: no right half behind the left one", r, l)
			}
			if right && (i == 0 || l[i-1] != api.Cell{R: c.R, K: api.LeftHalf}) {
				t.Fatalf("P2.4: Cells(%d) = %v: no left half ahead of the right one", r, l)
			}
			if (left || right) != wide.Wide(r) {
				t.Fatalf("P2.4: Cells(%d) = %v", r, l)
			}
		}
	})
}

func TestRowsOneBehindTheOther(t *testing.T) { // P2.4
	l := allEdges()
	for i := 0; i <= len(l); i++ {
		got := wide.Row(l)
		if want := slices.Concat(wide.Row(l[:i]), wide.Row(l[i:])); !slices.Equal(got, want) {
			t.Fatalf("P2.4: cut at %d, the row is another one: %v, want %v", i, want, got)
		}
	}
	for _, a := range l {
		for _, b := range l {
			got := wide.Row([]rune{a, b})
			if want := slices.Concat(wide.Cells(a), wide.Cells(b)); !slices.Equal(got, want) {
				t.Fatalf("P2.4: Row of %d and %d = %v, want %v", a, b, got, want)
			}
		}
	}
}

func TestArgumentsAndAnswersStayAsTheyAre(t *testing.T) { // R2
	l := allEdges()
	kept := slices.Clone(l)
	row := wide.Row(l)
	held := slices.Clone(row)
	if !slices.Equal(l, kept) {
		t.Fatalf("R2: Row changed what it was handed: %v", l)
	}
	clear(l)
	for range 3 {
		again := wide.Row(kept)
		if !slices.Equal(again, held) {
			t.Fatalf("R2: Row tells another thing later: %v", again)
		}
		clear(again)
	}
	if !slices.Equal(row, held) {
		t.Fatal("R2: what came out of Row was changed later")
	}
	for _, r := range kept {
		first := wide.Cells(r)
		want := slices.Clone(first)
		clear(wide.Cells(r))
		_ = append(first, api.Cell{R: 1, K: 9})
		if again := wide.Cells(r); !slices.Equal(first, want) || !slices.Equal(again, want) {
			t.Fatalf("R2: Cells(%d) = %v, and later %v", r, first, again)
		}
	}
}

func TestExampleOfTheWhole(t *testing.T) { // the document's second example
	if l := wide.Cells(1); !slices.Equal(l, []api.Cell{{R: '^'}, {R: 'A'}}) {
		t.Errorf("the sign 1: %v", l)
	}
	if l := wide.Cells(20013); len(l) != 2 || wide.Width(20013) != 2 {
		t.Errorf("20013: %v", l)
	}
}
