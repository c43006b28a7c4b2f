package grid_test

import (
	"math"
	"math/rand"
	"slices"
	"testing"

	"typebar/api"
	"typebar/grid"
	"typebar/wide"
)

// The cells of which the tests' grids are made: whole ones, halves, and some that are never right.
var (
	bl = api.Cell{R: 32}
	ca = api.Cell{R: 97}
	cb = api.Cell{R: 98}
	l1 = api.Cell{R: 20013, K: 1}
	r1 = api.Cell{R: 20013, K: 2}
	l2 = api.Cell{R: 128512, K: 1}
	r2 = api.Cell{R: 128512, K: 2}

	badCells = []api.Cell{
		{}, {R: 1}, {R: 127}, {R: 159}, {R: -1}, {R: 55296}, {R: 1114112}, {R: math.MinInt32}, {R: math.MaxInt32},
		{R: 97, K: 1}, {R: 97, K: 2}, {R: 97, K: 3}, {R: 97, K: -1}, {R: 20013}, {R: 20013, K: 3}, {R: 20013, K: -1},
		{R: 20013, K: math.MinInt}, {R: 20013, K: math.MaxInt}, {R: 1, K: 1}, {R: 1, K: 2},
	}
)

// farOff are numbers that no side, no column, no row and no place may be.
var farOff = []int{
	math.MinInt, math.MinInt + 1, -(1 << 32), -1 << 31, -1921, -25, -1, 1921, 1 << 16, 1 << 31, 1<<32 + 1, math.MaxInt - 1, math.MaxInt,
}

// of tells a grid with these sides and cells.
func of(w, h int, l ...api.Cell) api.Grid {
	return api.Grid{W: w, H: h, L: l}
}

func same(a, b api.Grid) bool {
	return a.W == b.W && a.H == b.H && slices.Equal(a.L, b.L)
}

func kept(g api.Grid) api.Grid {
	return api.Grid{W: g.W, H: g.H, L: slices.Clone(g.L)}
}

// isRight is what the chapter calls right, by reading each row sign by sign.
func isRight(g api.Grid) bool {
	if g.W < 2 || g.W > 80 || g.H < 1 || g.H > 24 || len(g.L) != g.W*g.H {
		return false
	}
	for y := 0; y < g.H; y++ {
		row := g.L[y*g.W : y*g.W+g.W]
		for len(row) > 0 {
			c := wide.Cells(row[0].R)
			if !wide.Shown(row[0].R) || len(c) > len(row) || !slices.Equal(c, row[:len(c)]) {
				return false
			}
			row = row[len(c):]
		}
	}
	return true
}

// heal blanks each half that has no other half beside it in its row: what the chapter says of parted signs.
func heal(g api.Grid) api.Grid {
	h := kept(g)
	for p, c := range g.L {
		x := p % g.W
		left := c.K == 1 && !(x+1 < g.W && g.L[p+1] == api.Cell{R: c.R, K: 2})
		right := c.K == 2 && !(x > 0 && g.L[p-1] == api.Cell{R: c.R, K: 1})
		if left || right {
			h.L[p] = bl
		}
	}
	return h
}

// put is P3.2, word by word.
func put(g api.Grid, x, y int, r rune) (api.Grid, api.Errno) {
	if !isRight(g) || x < 0 || x > g.W-1 || y < 0 || y > g.H-1 || !wide.Shown(r) || wide.Wide(r) && x == g.W-1 {
		return api.Grid{}, api.ErrArg
	}
	n := kept(g)
	for i, c := range wide.Cells(r) {
		n.L[y*g.W+x+i] = c
	}
	return heal(n), api.OK
}

// wipe is P3.3, word by word.
func wipe(g api.Grid, from, to int) (api.Grid, api.Errno) {
	if !isRight(g) || from < 0 || from > to || to > g.W*g.H {
		return api.Grid{}, api.ErrArg
	}
	n := kept(g)
	for p := from; p < to; p++ {
		n.L[p] = bl
	}
	return heal(n), api.OK
}

// scroll is P3.4, word by word.
func scroll(g api.Grid) api.Grid {
	if !isRight(g) {
		return g
	}
	n := api.Grid{W: g.W, H: g.H}
	for p := range g.L {
		if p+g.W < len(g.L) {
			n.L = append(n.L, g.L[p+g.W])
		} else {
			n.L = append(n.L, bl)
		}
	}
	return n
}

// fit is P3.4, word by word.
func fit(g api.Grid, w, h int) (api.Grid, api.Errno) {
	if !isRight(g) {
		return api.Grid{}, api.ErrArg
	}
	if w < 2 || w > 80 || h < 1 || h > 24 {
		return api.Grid{}, api.ErrLimit
	}
	n := api.Grid{W: w, H: h}
	for y := 0; y < h; y++ {
		for x := 0; x < w; x++ {
			c := bl
			if x < g.W && y < g.H {
				c = g.L[y*g.W+x]
			}
			n.L = append(n.L, c)
		}
	}
	return heal(n), api.OK
}

// rows calls f with all right rows of n cells.
func rows(n int, f func([]api.Cell)) {
	if n == 0 {
		f(nil)
		return
	}
	for _, head := range [][]api.Cell{{bl}, {ca}, {l1, r1}, {l2, r2}} {
		if len(head) <= n {
			rows(n-len(head), func(l []api.Cell) { f(slices.Concat(head, l)) })
		}
	}
}

// grids calls f with all right grids of these sides, of a few signs.
func grids(w, h int, f func(api.Grid)) {
	if h == 0 {
		f(api.Grid{W: w})
		return
	}
	grids(w, h-1, func(g api.Grid) {
		rows(w, func(l []api.Cell) { f(api.Grid{W: w, H: h, L: slices.Concat(g.L, l)}) })
	})
}

// someGrids calls f with all small right grids, and with some of all sides at the limits.
func someGrids(f func(api.Grid)) {
	for _, s := range [][2]int{{2, 1}, {3, 1}, {4, 1}, {5, 1}, {2, 2}, {3, 2}, {4, 2}, {2, 3}} {
		grids(s[0], s[1], f)
	}
	for i, s := range [][2]int{{2, 24}, {80, 1}, {79, 3}, {13, 23}, {80, 24}} {
		f(mixed(s[0], s[1], int64(i)))
	}
}

// mixed tells a right grid of these sides with signs of one cell and of two, which ones by the seed alone.
func mixed(w, h int, seed int64) api.Grid {
	src := rand.New(rand.NewSource(seed))
	signs := []rune{32, 97, 126, 160, 228, 4351, 4352, 12350, 12351, 20013, 65533, 128512, 262141, 1114111}
	g := api.Grid{W: w, H: h}
	for range h {
		for x := 0; x < w; {
			c := wide.Cells(signs[src.Intn(len(signs))])
			if x+len(c) <= w {
				g.L = append(g.L, c...)
				x += len(c)
			}
		}
	}
	return g
}

// wrongGrids tells grids that are not right, one for each way that there is, by names.
func wrongGrids() map[string]api.Grid {
	full := mixed(80, 24, 1).L
	m := map[string]api.Grid{
		"zero": {}, "no cells": of(2, 1), "W 1": of(1, 2, ca, ca), "W 0": of(0, 1), "W 81": {W: 81, H: 1, L: blanks(81)},
		"H 0": of(2, 0), "H 0 with cells": of(2, 0, ca, ca), "H 25": {W: 2, H: 25, L: blanks(50)}, "both below 0": of(-2, -1, ca, ca),
		"W below 0": of(-2, 1), "H below 0": of(2, -1), "one cell less": of(3, 2, ca, ca, ca, ca, ca), "one cell more": of(2, 1, ca, ca, ca),
		"a row less": {W: 80, H: 24, L: full[:80*23]}, "a row more": {W: 80, H: 23, L: full},
		"wraps to 0": of(1<<32, 1<<32), "wraps to 2": of(1<<63-1, 1<<63-1, ca), "wraps from below": of(math.MinInt, 2), "greatest": of(math.MaxInt, math.MaxInt),
		"least": of(math.MinInt, math.MinInt), "W greatest": of(math.MaxInt, 1, ca, ca), "H greatest": of(2, math.MaxInt, ca, ca),
		"left alone": of(3, 1, ca, l1, ca), "right alone": of(3, 1, ca, r1, ca), "left last": of(3, 1, ca, ca, l1), "right first": of(3, 1, r1, ca, ca),
		"halves changed about": of(2, 1, r1, l1), "halves of two signs": of(2, 1, l1, r2), "two left": of(2, 1, l1, l1), "two right": of(2, 1, r1, r1),
		"one in another": of(4, 1, l1, l2, r2, r1), "left, left, right": of(3, 1, l1, l1, r1), "left, right, right": of(3, 1, l1, r1, r1),
		"left, left, right, right": of(4, 1, l1, l1, r1, r1), "a blank between": of(3, 1, l1, bl, r1),
		"parted by rows": of(2, 2, ca, l1, r1, ca), "parted by rows of three": of(3, 3, ca, ca, ca, ca, ca, l2, r2, ca, ca),
		"one above the other": of(2, 2, l1, ca, r1, ca), "all parted": of(2, 2, ca, l1, r1, l1),
	}
	for i, c := range badCells {
		g := mixed(7, 3, 2)
		for j := range g.L {
			g.L[j] = ca
		}
		for _, p := range []int{0, 6, 7, 10, 14, 20} {
			k := kept(g)
			k.L[p] = c
			m["cell "+string(rune('A'+i))+" at "+string(rune('a'+p))] = k
		}
	}
	return m
}

func blanks(n int) []api.Cell {
	return slices.Repeat([]api.Cell{bl}, n)
}

func TestNewOfAllSides(t *testing.T) { // P3.1, R1, R3
	var sides []int
	for i := -3; i <= 90; i++ {
		sides = append(sides, i)
	}
	sides = append(sides, farOff...)
	for _, w := range sides {
		for _, h := range sides {
			g, e := grid.New(w, h)
			if w < 2 || w > 80 || h < 1 || h > 24 {
				if e != api.ErrLimit || !same(g, api.Grid{}) {
					t.Fatalf("P3.1: New(%d, %d) = %v, %d", w, h, g, e)
				}
				continue
			}
			if e != api.OK || g.W != w || g.H != h || !slices.Equal(g.L, blanks(w*h)) || !grid.Is(g) {
				t.Fatalf("P3.1: New(%d, %d) = %d, %d, %d cells, %d", w, h, g.W, g.H, len(g.L), e)
			}
		}
	}
}

func TestNewOfEdges(t *testing.T) { // P3.1, written out
	for _, s := range [][2]int{{2, 1}, {2, 24}, {80, 1}, {80, 24}, {40, 12}} {
		if g, e := grid.New(s[0], s[1]); e != api.OK || g.W != s[0] || g.H != s[1] || len(g.L) != s[0]*s[1] {
			t.Errorf("P3.1: New%v = %v, %d", s, g, e)
		}
	}
	for _, s := range [][2]int{{1, 1}, {81, 1}, {2, 0}, {2, 25}, {80, 25}, {81, 24}, {0, 0}, {-2, -1}, {math.MaxInt, math.MaxInt}, {math.MinInt, math.MinInt}} {
		if g, e := grid.New(s[0], s[1]); e != api.ErrLimit || g.W != 0 || g.H != 0 || g.L != nil {
			t.Errorf("P3.1: New%v = %v, %d", s, g, e)
		}
	}
	if g, _ := grid.New(3, 1); !same(g, of(3, 1, bl, bl, bl)) {
		t.Errorf("P3.1: New(3, 1) = %v", g)
	}
}

func TestIsOfEdges(t *testing.T) { // P3.1, written out
	for _, g := range []api.Grid{
		of(2, 1, ca, cb), of(2, 1, bl, bl), of(2, 1, l1, r1), of(3, 1, l1, r1, ca), of(3, 1, ca, l1, r1), of(4, 1, l1, r1, l1, r1),
		of(4, 1, l1, r1, l2, r2), of(4, 1, ca, l2, r2, ca), of(2, 2, l1, r1, l1, r1), of(2, 2, ca, ca, l1, r1),
		of(2, 1, api.Cell{R: 65533}, api.Cell{R: 1114111}), of(3, 2, ca, l1, r1, l2, r2, cb),
		{W: 80, H: 24, L: blanks(1920)}, {W: 2, H: 24, L: blanks(48)}, {W: 80, H: 1, L: blanks(80)},
	} {
		if !grid.Is(g) {
			t.Errorf("P3.1: Is(%v) is false", g)
		}
	}
	for name, g := range wrongGrids() {
		if grid.Is(g) {
			t.Errorf("P3.1: %s: Is(%v) is true", name, g)
		}
	}
}

func TestIsOfAllCells(t *testing.T) { // P3.1
	all := []api.Cell{ca, bl, l1, r1, l2, r2, {R: 20013}, {R: 97, K: 1}, {}}
	var fill func(g api.Grid, n int)
	fill = func(g api.Grid, n int) {
		if n == 0 {
			if grid.Is(g) != isRight(g) {
				t.Fatalf("P3.1: Is(%v) is not %v", g, isRight(g))
			}
			return
		}
		for _, c := range all {
			fill(api.Grid{W: g.W, H: g.H, L: append(slices.Clone(g.L), c)}, n-1)
		}
	}
	for n := range 5 {
		fill(of(2, 1), n)
		fill(of(2, 2), n)
		fill(of(3, 1), n)
		fill(of(4, 1), n)
	}
}

func TestAtOfAllPlaces(t *testing.T) { // P3.1, R1, R3
	someGrids(func(g api.Grid) {
		for y := -2; y < g.H+2; y++ {
			for x := -2; x < g.W+2; x++ {
				want, err := api.Cell{}, api.ErrArg
				if x >= 0 && x <= g.W-1 && y >= 0 && y <= g.H-1 {
					want, err = g.L[y*g.W+x], api.OK
				}
				if c, e := grid.At(g, x, y); c != want || e != err {
					t.Fatalf("P3.1: At(%v, %d, %d) = %v, %d, want %v, %d", g, x, y, c, e, want, err)
				}
			}
		}
	})
	g := mixed(80, 24, 3)
	for _, k := range farOff {
		for _, p := range [][2]int{{k, 0}, {0, k}, {k, 23}, {79, k}, {k, k}, {k, -k}} {
			if c, e := grid.At(g, p[0], p[1]); c != (api.Cell{}) || e != api.ErrArg {
				t.Errorf("P3.1: At%v = %v, %d", p, c, e)
			}
		}
	}
}

func TestAtOfEdges(t *testing.T) { // P3.1, written out
	g := of(3, 2, ca, l1, r1, l2, r2, cb)
	for _, x := range []struct {
		x, y int
		c    api.Cell
	}{{0, 0, ca}, {1, 0, l1}, {2, 0, r1}, {0, 1, l2}, {1, 1, r2}, {2, 1, cb}} {
		if c, e := grid.At(g, x.x, x.y); c != x.c || e != api.OK {
			t.Errorf("P3.1: At(%d, %d) = %v, %d", x.x, x.y, c, e)
		}
	}
	for _, p := range [][2]int{{-1, 0}, {3, 0}, {0, -1}, {0, 2}, {-1, 1}, {3, 1}, {-3, 1}, {3, -1}, {5, 0}} {
		if c, e := grid.At(g, p[0], p[1]); c != (api.Cell{}) || e != api.ErrArg {
			t.Errorf("P3.1: At%v = %v, %d", p, c, e)
		}
	}
}

func TestPutOfAllPlaces(t *testing.T) { // P3.2, R1
	signs := []rune{97, 98, 20013, 128512, 32, 65533, 31, 127, -1, 55296, 1114112}
	someGrids(func(g api.Grid) {
		ys := []int{-1, 0, g.H / 2, g.H - 1, g.H}
		for _, y := range ys {
			for x := -1; x <= g.W; x++ {
				for _, r := range signs {
					n, e := grid.Put(g, x, y, r)
					if wn, we := put(g, x, y, r); !same(n, wn) || e != we {
						t.Fatalf("P3.2: Put(%v, %d, %d, %d) = %v, %d, want %v, %d", g, x, y, r, n, e, wn, we)
					}
				}
			}
		}
	})
}

func TestPutOfEdges(t *testing.T) { // P3.2, written out
	for i, x := range []struct {
		g    api.Grid
		x, y int
		r    rune
		want api.Grid
	}{
		{of(2, 1, bl, bl), 0, 0, 97, of(2, 1, ca, bl)}, {of(2, 1, bl, bl), 1, 0, 97, of(2, 1, bl, ca)},
		{of(2, 1, bl, bl), 0, 0, 20013, of(2, 1, l1, r1)}, {of(2, 1, ca, cb), 0, 0, 32, of(2, 1, bl, cb)},
		// the first and the last place of a row and of a grid
		{of(2, 2, ca, ca, ca, ca), 0, 0, 98, of(2, 2, cb, ca, ca, ca)}, {of(2, 2, ca, ca, ca, ca), 1, 0, 98, of(2, 2, ca, cb, ca, ca)},
		{of(2, 2, ca, ca, ca, ca), 0, 1, 98, of(2, 2, ca, ca, cb, ca)}, {of(2, 2, ca, ca, ca, ca), 1, 1, 98, of(2, 2, ca, ca, ca, cb)},
		{of(3, 2, ca, ca, ca, ca, ca, ca), 1, 0, 20013, of(3, 2, ca, l1, r1, ca, ca, ca)}, {of(3, 2, ca, ca, ca, ca, ca, ca), 1, 1, 20013, of(3, 2, ca, ca, ca, ca, l1, r1)},
		// over halves
		{of(3, 1, l1, r1, ca), 0, 0, 98, of(3, 1, cb, bl, ca)}, {of(3, 1, l1, r1, ca), 1, 0, 98, of(3, 1, bl, cb, ca)},
		{of(3, 1, l1, r1, ca), 0, 0, 128512, of(3, 1, l2, r2, ca)}, {of(3, 1, l1, r1, ca), 1, 0, 128512, of(3, 1, bl, l2, r2)},
		{of(3, 1, ca, l1, r1), 0, 0, 128512, of(3, 1, l2, r2, bl)}, {of(4, 1, l1, r1, l1, r1), 1, 0, 128512, of(4, 1, bl, l2, r2, bl)},
		{of(4, 1, l1, r1, l1, r1), 1, 0, 20013, of(4, 1, bl, l1, r1, bl)}, {of(4, 1, l1, r1, l2, r2), 2, 0, 97, of(4, 1, l1, r1, ca, bl)},
		{of(2, 1, l1, r1), 0, 0, 20013, of(2, 1, l1, r1)}, {of(3, 1, l1, r1, ca), 2, 0, 97, of(3, 1, l1, r1, ca)},
		// signs of the rows above and below stay
		{of(2, 3, l1, r1, l2, r2, l1, r1), 1, 1, 97, of(2, 3, l1, r1, bl, ca, l1, r1)}, {of(2, 3, l1, r1, l2, r2, l1, r1), 0, 1, 97, of(2, 3, l1, r1, ca, bl, l1, r1)},
	} {
		if g, e := grid.Put(x.g, x.x, x.y, x.r); !same(g, x.want) || e != api.OK {
			t.Errorf("P3.2: %d: %v, %d, want %v", i, g, e, x.want)
		}
	}
}

func TestPutOfWrongInputs(t *testing.T) { // P3.2, R1, R3
	g := of(3, 2, ca, l1, r1, l2, r2, cb)
	refused := func(x, y int, r rune) {
		t.Helper()
		if n, e := grid.Put(g, x, y, r); e != api.ErrArg || n.W != 0 || n.H != 0 || n.L != nil {
			t.Errorf("P3.2: Put(%d, %d, %d) = %v, %d", x, y, r, n, e)
		}
	}
	for _, r := range []rune{math.MinInt32, -1, 0, 1, 31, 127, 128, 159, 55296, 57343, 1114112, math.MaxInt32} {
		refused(0, 0, r)
		refused(2, 1, r)
	}
	for _, r := range []rune{4352, 20013, 128512, 262141} {
		refused(2, 0, r)
		refused(2, 1, r)
	}
	for _, k := range farOff {
		refused(k, 0, 97)
		refused(0, k, 97)
		refused(k, k, 97)
		refused(k, 0, 20013)
		refused(k, 1, 20013)
	}
	for _, p := range [][2]int{{-1, 0}, {3, 0}, {0, -1}, {0, 2}, {3, 1}, {-1, 1}, {-3, 1}} {
		refused(p[0], p[1], 97)
		refused(p[0], p[1], 20013)
	}
}

func TestBlankOfAllPlaces(t *testing.T) { // P3.3, R1
	someGrids(func(g api.Grid) {
		n := len(g.L)
		step := 1
		if n > 100 {
			step = n/60 + 1
		}
		for from := -1; from <= n+1; from += step {
			for to := -1; to <= n+1; to += step {
				b, e := grid.Blank(g, from, to)
				if wb, we := wipe(g, from, to); !same(b, wb) || e != we {
					t.Fatalf("P3.3: Blank(%v, %d, %d) = %v, %d, want %v, %d", g, from, to, b, e, wb, we)
				}
			}
		}
	})
}

func TestBlankOfEdges(t *testing.T) { // P3.3, written out
	full := of(3, 2, ca, l1, r1, l2, r2, cb)
	for i, x := range []struct {
		g        api.Grid
		from, to int
		want     api.Grid
	}{
		// from equal to to: nothing is blanked, so no sign is parted
		{full, 0, 0, full}, {full, 1, 1, full}, {full, 2, 2, full}, {full, 3, 3, full}, {full, 4, 4, full}, {full, 6, 6, full},
		{full, 0, 1, of(3, 2, bl, l1, r1, l2, r2, cb)}, {full, 5, 6, of(3, 2, ca, l1, r1, l2, r2, bl)},
		{full, 1, 2, of(3, 2, ca, bl, bl, l2, r2, cb)}, {full, 2, 3, of(3, 2, ca, bl, bl, l2, r2, cb)}, {full, 1, 3, of(3, 2, ca, bl, bl, l2, r2, cb)},
		{full, 0, 2, of(3, 2, bl, bl, bl, l2, r2, cb)}, {full, 3, 4, of(3, 2, ca, l1, r1, bl, bl, cb)}, {full, 4, 6, of(3, 2, ca, l1, r1, bl, bl, bl)},
		{full, 2, 4, of(3, 2, ca, bl, bl, bl, bl, cb)}, {full, 0, 3, of(3, 2, bl, bl, bl, l2, r2, cb)}, {full, 3, 6, of(3, 2, ca, l1, r1, bl, bl, bl)},
		{full, 0, 6, of(3, 2, bl, bl, bl, bl, bl, bl)}, {full, 0, 4, of(3, 2, bl, bl, bl, bl, bl, cb)},
		{of(4, 1, l1, r1, l1, r1), 1, 3, of(4, 1, bl, bl, bl, bl)}, {of(4, 1, l1, r1, l1, r1), 2, 4, of(4, 1, l1, r1, bl, bl)},
		{of(2, 1, l1, r1), 0, 1, of(2, 1, bl, bl)}, {of(2, 1, l1, r1), 1, 2, of(2, 1, bl, bl)}, {of(2, 1, l1, r1), 1, 1, of(2, 1, l1, r1)},
	} {
		if g, e := grid.Blank(x.g, x.from, x.to); !same(g, x.want) || e != api.OK {
			t.Errorf("P3.3: %d: %v, %d, want %v", i, g, e, x.want)
		}
	}
}

func TestBlankOfWrongInputs(t *testing.T) { // P3.3, R1, R3
	g := of(3, 2, ca, l1, r1, l2, r2, cb)
	refused := func(from, to int) {
		t.Helper()
		if n, e := grid.Blank(g, from, to); e != api.ErrArg || n.W != 0 || n.H != 0 || n.L != nil {
			t.Errorf("P3.3: Blank(%d, %d) = %v, %d", from, to, n, e)
		}
	}
	for _, p := range [][2]int{{-1, 0}, {-1, 6}, {-1, -1}, {0, 7}, {7, 7}, {6, 7}, {1, 0}, {6, 5}, {6, 0}, {4, 2}, {0, -1}} {
		refused(p[0], p[1])
	}
	for _, k := range farOff {
		refused(k, 6)
		refused(0, k)
		refused(k, k)
		for _, j := range farOff {
			refused(k, j)
		}
	}
}

func TestScrollOfAllGrids(t *testing.T) { // P3.4
	someGrids(func(g api.Grid) {
		if n, want := grid.Scroll(g), scroll(g); !same(n, want) {
			t.Fatalf("P3.4: Scroll(%v) = %v, want %v", g, n, want)
		}
	})
	for _, x := range [][2]api.Grid{
		{of(2, 1, ca, cb), of(2, 1, bl, bl)}, {of(2, 1, l1, r1), of(2, 1, bl, bl)}, {of(2, 2, ca, cb, l1, r1), of(2, 2, l1, r1, bl, bl)},
		{of(3, 3, ca, l1, r1, l2, r2, cb, cb, cb, ca), of(3, 3, l2, r2, cb, cb, cb, ca, bl, bl, bl)},
	} {
		if g := grid.Scroll(x[0]); !same(g, x[1]) {
			t.Errorf("P3.4: Scroll(%v) = %v, want %v", x[0], g, x[1])
		}
	}
	g := mixed(80, 24, 4)
	for n := range 26 {
		if want := slices.Concat(mixed(80, 24, 4).L[min(n, 24)*80:], blanks(min(n, 24)*80)); !slices.Equal(g.L, want) {
			t.Fatalf("P3.4: %d times scrolled: %v", n, g)
		}
		g = grid.Scroll(g)
	}
}

func TestFitOfAllSides(t *testing.T) { // P3.4, R1
	someGrids(func(g api.Grid) {
		for _, w := range []int{1, 2, 3, 4, 5, 6, 79, 80, 81} {
			for _, h := range []int{0, 1, 2, 3, 24, 25} {
				if len(g.L) < 9 && w > 6 && h > 3 {
					continue
				}
				n, e := grid.Fit(g, w, h)
				if wn, we := fit(g, w, h); !same(n, wn) || e != we {
					t.Fatalf("P3.4: Fit(%v, %d, %d) = %v, %d, want %v, %d", g, w, h, n, e, wn, we)
				}
			}
		}
	})
	for _, g := range []api.Grid{mixed(80, 24, 5), mixed(2, 1, 6), mixed(40, 12, 7)} {
		for w := 2; w <= 80; w++ {
			for h := 1; h <= 24; h++ {
				n, e := grid.Fit(g, w, h)
				if wn, we := fit(g, w, h); !same(n, wn) || e != we {
					t.Fatalf("P3.4: Fit of %d, %d to %d, %d: %d", g.W, g.H, w, h, e)
				}
			}
		}
	}
}

func TestFitOfEdges(t *testing.T) { // P3.4, written out
	full := of(3, 2, ca, l1, r1, l2, r2, cb)
	for i, x := range []struct {
		g    api.Grid
		w, h int
		want api.Grid
	}{
		{full, 3, 2, full}, {full, 2, 2, of(2, 2, ca, bl, l2, r2)}, {full, 2, 1, of(2, 1, ca, bl)}, {full, 3, 1, of(3, 1, ca, l1, r1)},
		{full, 4, 1, of(4, 1, ca, l1, r1, bl)}, {full, 2, 3, of(2, 3, ca, bl, l2, r2, bl, bl)},
		{full, 4, 3, of(4, 3, ca, l1, r1, bl, l2, r2, cb, bl, bl, bl, bl, bl)}, {full, 5, 2, of(5, 2, ca, l1, r1, bl, bl, l2, r2, cb, bl, bl)},
		{of(4, 1, l1, r1, l2, r2), 3, 1, of(3, 1, l1, r1, bl)}, {of(4, 1, l1, r1, l2, r2), 2, 1, of(2, 1, l1, r1)}, {of(2, 1, l1, r1), 3, 2, of(3, 2, l1, r1, bl, bl, bl, bl)},
	} {
		if g, e := grid.Fit(x.g, x.w, x.h); !same(g, x.want) || e != api.OK {
			t.Errorf("P3.4: %d: %v, %d, want %v", i, g, e, x.want)
		}
	}
	for _, s := range [][2]int{{1, 2}, {81, 2}, {3, 0}, {3, 25}, {0, 0}, {-3, -2}, {1, 25}} {
		if g, e := grid.Fit(full, s[0], s[1]); e != api.ErrLimit || g.W != 0 || g.H != 0 || g.L != nil {
			t.Errorf("P3.4: Fit%v = %v, %d", s, g, e)
		}
	}
	for _, k := range farOff {
		for _, s := range [][2]int{{k, 2}, {3, k}, {k, k}, {k, -k}} {
			if g, e := grid.Fit(full, s[0], s[1]); e != api.ErrLimit || g.W != 0 || g.H != 0 || g.L != nil {
				t.Errorf("P3.4: Fit%v = %v, %d", s, g, e)
			}
		}
	}
}

func TestWrongGrids(t *testing.T) { // P3.1 to P3.4, R1
	for name, g := range wrongGrids() {
		if isRight(g) {
			t.Fatalf("%s: the test's own grid is right", name)
		}
		held := kept(g)
		zero := func(what string, n api.Grid, e api.Errno) {
			t.Helper()
			if e != api.ErrArg || n.W != 0 || n.H != 0 || n.L != nil {
				t.Errorf("%s: %s = %v, %d", name, what, n, e)
			}
		}
		for _, k := range []int{0, 1, -1, 2, 5, 24, 80, math.MinInt, math.MaxInt} {
			for _, j := range []int{0, 1, -1, 3, math.MinInt, math.MaxInt} {
				if c, e := grid.At(g, k, j); c != (api.Cell{}) || e != api.ErrArg {
					t.Errorf("P3.1: %s: At(%d, %d) = %v, %d", name, k, j, c, e)
				}
				n, e := grid.Put(g, k, j, 97)
				zero("P3.2: Put", n, e)
				n, e = grid.Put(g, k, j, 20013)
				zero("P3.2: Put", n, e)
				n, e = grid.Blank(g, k, j)
				zero("P3.3: Blank", n, e)
				n, e = grid.Fit(g, k, j)
				zero("P3.4: Fit", n, e)
			}
		}
		n, e := grid.Fit(g, 4, 2)
		zero("P3.4: Fit", n, e)
		n, e = grid.Blank(g, 0, len(g.L))
		zero("P3.3: Blank", n, e)
		if n := grid.Scroll(g); !same(n, held) {
			t.Errorf("P3.4: %s: Scroll = %v, want %v", name, n, held)
		}
	}
}

func TestWhatComesOfRightGridsIsRight(t *testing.T) { // P3.5
	someGrids(func(g api.Grid) {
		check := func(what string, n api.Grid, e api.Errno) {
			t.Helper()
			if e == api.OK && (!grid.Is(n) || !isRight(n)) {
				t.Fatalf("P3.5: %s of %v = %v, which is not right", what, g, n)
			}
		}
		check("Scroll", grid.Scroll(g), api.OK)
		for p := range g.L {
			for _, r := range []rune{98, 20013, 128512} {
				n, e := grid.Put(g, p%g.W, p/g.W, r)
				check("Put", n, e)
			}
			n, e := grid.Blank(g, p, min(p+3, len(g.L)))
			check("Blank", n, e)
		}
		for w := 2; w <= 6; w++ {
			n, e := grid.Fit(g, w, 2)
			check("Fit", n, e)
		}
	})
}

func TestWhatWasPutIsThere(t *testing.T) { // P3.5
	someGrids(func(g api.Grid) {
		for p := range g.L {
			for _, r := range []rune{98, 160, 20013, 128512} {
				x, y := p%g.W, p/g.W
				n, e := grid.Put(g, x, y, r)
				if e != api.OK {
					continue
				}
				l := wide.Cells(r)
				for q, c := range n.L {
					there := q >= p && q < p+len(l)
					beside := (q == p-1 || q == p+len(l)) && q/g.W == y
					switch {
					case there && c != l[q-p]:
						t.Fatalf("P3.5: Put(%v, %d, %d, %d) = %v: not there", g, x, y, r, n)
					case beside && c != g.L[q] && (c != bl || g.L[q].K == 0):
						t.Fatalf("P3.5: Put(%v, %d, %d, %d) = %v: another cell beside it", g, x, y, r, n)
					case !there && !beside && c != g.L[q]:
						t.Fatalf("P3.5: Put(%v, %d, %d, %d) = %v: another cell at %d", g, x, y, r, n, q)
					}
				}
			}
		}
	})
}

func TestWhatWasBlankedIsBlank(t *testing.T) { // P3.5
	someGrids(func(g api.Grid) {
		for from := 0; from <= len(g.L); from++ {
			for _, to := range []int{from, from + 1, from + 2, from + g.W, len(g.L)} {
				n, e := grid.Blank(g, from, to)
				if e != api.OK {
					continue
				}
				for q, c := range n.L {
					in := q >= from && q < to
					beside := q == from-1 || q == to
					if in && c != bl || !in && c != g.L[q] && !(beside && c == bl) {
						t.Fatalf("P3.5: Blank(%v, %d, %d) = %v: %v at %d", g, from, to, n, c, q)
					}
				}
				if again, e := grid.Blank(n, from, to); !same(again, n) || e != api.OK {
					t.Fatalf("P3.5: Blank(%v, %d, %d) = %v, and later %v", g, from, to, n, again)
				}
			}
		}
	})
}

func TestArgumentsAndAnswersStayAsTheyAre(t *testing.T) { // R2, R4
	// A list with more room behind it: whoever appends to it, or writes in it, is seen.
	room := mixed(4, 4, 8).L
	g := api.Grid{W: 4, H: 2, L: room[:8]}
	if !isRight(g) {
		t.Fatal("the test's own grid is not right")
	}
	held := slices.Clone(room)
	var answers, copies []api.Grid
	keep := func(n api.Grid) {
		answers = append(answers, n)
		copies = append(copies, kept(n))
	}
	tell := func(g api.Grid) {
		for p := range g.L {
			for _, r := range []rune{98, 20013} {
				n, _ := grid.Put(g, p%g.W, p/g.W, r)
				keep(n)
			}
			n, _ := grid.Blank(g, p, p+2)
			keep(n)
			n, _ = grid.Blank(g, p, p)
			keep(n)
		}
		keep(grid.Scroll(g))
		for _, s := range [][2]int{{4, 2}, {2, 1}, {3, 3}, {5, 2}, {1, 1}} {
			n, _ := grid.Fit(g, s[0], s[1])
			keep(n)
		}
		grid.At(g, 1, 1)
		grid.Is(g)
	}
	tell(g)
	for _, n := range slices.Clone(answers) {
		if n.W > 0 {
			tell(n)
		}
	}
	n, _ := grid.New(4, 2)
	keep(n)
	if !slices.Equal(room, held) {
		t.Fatalf("R2: what was handed in was changed: %v, and before %v", room, held)
	}
	for i := range answers {
		if !same(answers[i], copies[i]) {
			t.Fatalf("R2: what came out was changed later: %v, and before %v", answers[i], copies[i])
		}
	}
	if again, _ := grid.New(4, 2); !same(again, of(4, 2, blanks(8)...)) {
		t.Fatalf("R2: New tells another thing later: %v", again)
	}
}
