package term_test

import (
	"fmt"
	"math"
	"math/rand"
	"slices"
	"strings"
	"sync"
	"testing"

	"typebar/api"
)

// The signs of two cells that the tests' screens have; all others of them are of one.
const (
	zhong     = 20013
	smile     = 128512
	firstWide = 4352
	lastWide  = 262141
)

var bl = api.Cell{R: 32}

// farOff are numbers that no side, no column and no row may be.
var farOff = []int{
	math.MinInt, math.MinInt + 1, -(1 << 32), -1 << 31, -1921, -81, -25, -1, 81, 1921, 1 << 16, 1 << 31, 1<<32 + 1, math.MaxInt - 1, math.MaxInt,
}

// behind stands in a model's row for the right half of the sign ahead of it.
const behind = -1

// model is a terminal in which a column has a sign, or what is behind one: no half can be there alone.
type model struct {
	rows [][]rune
	x, y int
	wrap bool
}

func width(r rune) int {
	switch r {
	case zhong, smile, firstWide, lastWide:
		return 2
	}
	return 1
}

// modelOf tells the model of a right terminal of the tests' signs.
func modelOf(t api.Term) model {
	m := model{x: t.X, y: t.Y, wrap: t.Wrap}
	for y := range t.G.H {
		row := make([]rune, t.G.W)
		for x := range row {
			row[x] = t.G.L[y*t.G.W+x].R
			if t.G.L[y*t.G.W+x].K == 2 {
				row[x] = behind
			}
		}
		m.rows = append(m.rows, row)
	}
	return m
}

// term tells the terminal that m is the model of.
func (m model) term() api.Term {
	t := api.Term{G: api.Grid{W: len(m.rows[0]), H: len(m.rows)}, X: m.x, Y: m.y, Wrap: m.wrap}
	for _, row := range m.rows {
		for x, r := range row {
			switch {
			case r == behind:
				t.G.L = append(t.G.L, api.Cell{R: row[x-1], K: 2})
			case width(r) == 2:
				t.G.L = append(t.G.L, api.Cell{R: r, K: 1})
			default:
				t.G.L = append(t.G.L, api.Cell{R: r})
			}
		}
	}
	return t
}

// free makes the column x of row y blank, with the whole of the sign that is there.
func (m *model) free(x, y int) {
	row := m.rows[y]
	if row[x] == behind {
		row[x-1] = 32
	}
	if x+1 < len(row) && row[x+1] == behind {
		row[x+1] = 32
	}
	row[x] = 32
}

// feed is what P7.2 says of CmdFeed, but for Wrap.
func (m *model) feed() {
	if m.y+1 < len(m.rows) {
		m.y++
		return
	}
	m.rows = append(m.rows[1:], []rune(strings.Repeat(" ", len(m.rows[0]))))
}

// text is what P7.2 says of CmdText.
func (m *model) text(r rune) {
	if m.wrap || m.x+width(r) > len(m.rows[0]) {
		m.feed()
		m.x = 0
	}
	for i := range width(r) {
		m.free(m.x+i, m.y)
	}
	m.rows[m.y][m.x] = r
	if width(r) == 2 {
		m.rows[m.y][m.x+1] = behind
	}
	m.x += width(r)
	m.wrap = false
	if m.x == len(m.rows[0]) {
		m.x, m.wrap = m.x-1, true
	}
}

// do is P7.2, word by word, by single steps.
func (m *model) do(c api.Command) {
	w, h := len(m.rows[0]), len(m.rows)
	switch c.Kind {
	case api.CmdText:
		m.text(c.R)
		return
	case api.CmdBell:
		return
	case api.CmdGo:
		for m.y, m.x = 0, 0; m.y < c.A && m.y < h-1; m.y++ {
		}
		for m.x < c.B && m.x < w-1 {
			m.x++
		}
	case api.CmdUp, api.CmdDown, api.CmdRight, api.CmdLeft:
		for range c.A {
			m.step(c.Kind)
		}
	case api.CmdHome:
		m.x = 0
	case api.CmdBack:
		m.step(api.CmdLeft)
	case api.CmdFeed:
		m.feed()
	case api.CmdRow, api.CmdAll:
		for y := m.y; y < h && (y == m.y || c.Kind == api.CmdAll); y++ {
			for x := range w {
				if y > m.y || x >= m.x {
					m.free(x, y)
				}
			}
		}
	}
	m.wrap = false
}

// step leads the cursor by one cell, if there is one.
func (m *model) step(kind int) {
	switch {
	case kind == api.CmdUp && m.y > 0:
		m.y--
	case kind == api.CmdDown && m.y < len(m.rows)-1:
		m.y++
	case kind == api.CmdRight && m.x < len(m.rows[0])-1:
		m.x++
	case kind == api.CmdLeft && m.x > 0:
		m.x--
	}
}

// did tells what t, which is right, becomes by the right commands of l.
func did(t api.Term, l ...api.Command) api.Term {
	m := modelOf(t)
	for _, c := range l {
		m.do(c)
	}
	return m.term()
}

// resized is P7.4, word by word, of a right terminal and of sides inside the limits.
func resized(t api.Term, w, h int) api.Term {
	old, n := modelOf(t), model{x: t.X, y: t.Y}
	for y := range h {
		row := []rune(strings.Repeat(" ", w))
		if y < t.G.H {
			for x := 0; x < w && x < t.G.W; x++ {
				if r := old.rows[y][x]; r == behind || x+width(r) <= w {
					row[x] = r
				}
			}
		}
		n.rows = append(n.rows, row)
	}
	for n.x > w-1 {
		n.x--
	}
	for n.y > h-1 {
		n.y--
	}
	return n.term()
}

func isRight(t api.Term) bool {
	return isRightGrid(t.G) && t.X >= 0 && t.X <= t.G.W-1 && t.Y >= 0 && t.Y <= t.G.H-1 && (!t.Wrap || t.X == t.G.W-1)
}

// isRightGrid is what chapter 3 calls right, of a grid of the tests' signs.
func isRightGrid(g api.Grid) bool {
	if g.W < 2 || g.W > 80 || g.H < 1 || g.H > 24 || len(g.L) != g.W*g.H {
		return false
	}
	for p, c := range g.L {
		x, two := p%g.W, width(c.R) == 2
		switch {
		case c.R < 32 || c.R >= 127 && c.R < 160 || c.R > 1114111:
			return false
		case c.K == 0 && !two:
		case c.K == 1 && two && x < g.W-1 && g.L[p+1] == api.Cell{R: c.R, K: 2}:
		case c.K == 2 && two && x > 0 && g.L[p-1] == api.Cell{R: c.R, K: 1}:
		default:
			return false
		}
	}
	return true
}

func same(a, b api.Term) bool {
	return a.G.W == b.G.W && a.G.H == b.G.H && slices.Equal(a.G.L, b.G.L) && a.X == b.X && a.Y == b.Y && a.Wrap == b.Wrap
}

func isZero(t api.Term) bool {
	return t.G.W == 0 && t.G.H == 0 && len(t.G.L) == 0 && t.X == 0 && t.Y == 0 && !t.Wrap
}

func kept(t api.Term) api.Term {
	t.G.L = slices.Clone(t.G.L)
	return t
}

// show tells t to be read: rows between bars, the cursor behind them, and w for Wrap.
func show(t api.Term) string {
	s := fmt.Sprintf("%dx%d ", t.G.W, t.G.H)
	for p, c := range t.G.L {
		if t.G.W > 0 && p%t.G.W == 0 {
			s += "|"
		}
		s += string(c.R) + []string{"", "<", ">"}[c.K&3%3]
	}
	s += fmt.Sprintf("| at %d, %d", t.X, t.Y)
	if t.Wrap {
		s += " w"
	}
	return s
}

// draw tells the terminal with these rows, all of them whole; each wide sign stands there once, and has two columns.
func draw(x, y int, wrap bool, rows ...string) api.Term {
	m := model{x: x, y: y, wrap: wrap}
	for _, s := range rows {
		var row []rune
		for _, r := range s {
			row = append(row, r)
			if width(r) == 2 {
				row = append(row, behind)
			}
		}
		m.rows = append(m.rows, row)
	}
	return m.term()
}

// at tells t with another cursor.
func at(t api.Term, x, y int, wrap bool) api.Term {
	t.X, t.Y, t.Wrap = x, y, wrap
	return t
}

// cursors calls f with t and each cursor that it may have.
func cursors(t api.Term, f func(api.Term)) {
	for y := range t.G.H {
		for x := range t.G.W {
			f(at(t, x, y, false))
		}
		f(at(t, t.G.W-1, y, true))
	}
}

// rowsOf calls f with all rows of n columns, of a few signs.
func rowsOf(n int, f func(string)) {
	if n == 0 {
		f("")
		return
	}
	for _, r := range []rune{32, 97, zhong, smile} {
		if width(r) <= n {
			rowsOf(n-width(r), func(s string) { f(s + string(r)) })
		}
	}
}

// drawn calls f with all screens of these sides, of a few signs, with the cursor at the first place.
func drawn(w, h int, f func(api.Term), above ...string) {
	if len(above) == h {
		f(draw(0, 0, false, above...))
		return
	}
	rowsOf(w, func(s string) { drawn(w, h, f, append(slices.Clone(above), s)...) })
}

// smallOnes calls f with all small right terminals, of a few signs.
func smallOnes(f func(api.Term)) {
	for _, s := range [][2]int{{2, 1}, {3, 1}, {4, 1}, {5, 1}, {2, 2}, {3, 2}, {2, 3}} {
		drawn(s[0], s[1], func(t api.Term) { cursors(t, f) })
	}
}

// greatSides are the least and the greatest ones, and some between.
var greatSides = [][2]int{{2, 1}, {2, 24}, {80, 1}, {80, 24}, {3, 23}, {79, 2}, {40, 12}}

// greatOnes calls f with terminals of those sides, the cursor at each corner, beside it, and in the midst.
func greatOnes(f func(api.Term)) {
	for i, s := range greatSides {
		t := mixed(s[0], s[1], int64(i))
		cursors(t, func(t api.Term) {
			x, y := t.X, t.Y
			if (x < 3 || x == t.G.W/2 || x > t.G.W-4) && (y < 2 || y == t.G.H/2 || y > t.G.H-3) {
				f(t)
			}
		})
	}
}

// mixed tells a terminal of these sides with signs of one cell and of two, which ones by the seed alone.
func mixed(w, h int, seed int64) api.Term {
	g := rand.New(rand.NewSource(seed))
	signs := []rune{32, 97, 98, 126, 160, 65533, 1114111, zhong, smile, zhong, smile}
	var rows []string
	for range h {
		s, n := "", 0
		for n < w {
			if r := signs[g.Intn(len(signs))]; n+width(r) <= w {
				s += string(r)
				n += width(r)
			}
		}
		rows = append(rows, s)
	}
	return draw(0, 0, false, rows...)
}

func text(r rune) api.Command      { return api.Command{Kind: api.CmdText, R: r} }
func goTo(a, b int) api.Command    { return api.Command{Kind: api.CmdGo, A: a, B: b} }
func some(kind, a int) api.Command { return api.Command{Kind: kind, A: a} }
func plain(kind int) api.Command   { return api.Command{Kind: kind} }
func blanks(n int) []api.Cell      { return slices.Repeat([]api.Cell{bl}, n) }
func fourOf(n int) []api.Command {
	return []api.Command{some(3, n), some(4, n), some(5, n), some(6, n)}
}
func grid(w, h int, l ...api.Cell) api.Grid { return api.Grid{W: w, H: h, L: l} }

// someCommands are right commands of each kind, with numbers beside the sides of small screens, and at the limits.
var someCommands = sync.OnceValue(func() []api.Command {
	l := []api.Command{plain(7), plain(8), plain(9), plain(10), plain(11), plain(12)}
	for _, r := range []rune{32, 97, 98, 126, 160, 65533, 1114111, zhong, smile} {
		l = append(l, text(r))
	}
	for _, a := range []int{0, 1, 2, 3, 23} {
		for _, b := range []int{0, 1, 2, 3, 4, 5, 79} {
			l = append(l, goTo(a, b))
		}
	}
	for _, n := range []int{1, 2, 3, 4, 5, 80} {
		l = append(l, fourOf(n)...)
	}
	return l
})

// allCommands are all right ones, but of CmdText a few alone.
var allCommands = sync.OnceValue(func() []api.Command {
	l := someCommands()
	for a := range 24 {
		for b := range 80 {
			l = append(l, goTo(a, b))
		}
	}
	for n := 1; n <= 80; n++ {
		l = append(l, fourOf(n)...)
	}
	return l
})

// wrongCommands are commands that are not right, of each kind, and of kinds that there are none.
var wrongCommands = sync.OnceValue(func() []api.Command {
	var l []api.Command
	for _, r := range []rune{math.MinInt32, -1, 0, 1, 7, 27, 31, 127, 128, 159, 55296, 57343, 1114112, math.MaxInt32} {
		l = append(l, text(r))
	}
	l = append(l, api.Command{Kind: 1, R: 97, A: 1}, api.Command{Kind: 1, R: 97, B: 1}, api.Command{Kind: 1, R: zhong, A: -1}, api.Command{Kind: 1, R: 97, A: math.MaxInt})
	for _, k := range append([]int{24, 80}, farOff...) {
		l = append(l, goTo(k, 0), goTo(k, 79))
	}
	for _, k := range append([]int{80, 81}, farOff...) {
		l = append(l, goTo(0, k), goTo(23, k), goTo(k, k))
	}
	for _, k := range append([]int{0, 81}, farOff...) {
		l = append(l, fourOf(k)...)
	}
	for kind := 2; kind <= 12; kind++ {
		l = append(l, api.Command{Kind: kind, A: 1, R: 97}, api.Command{Kind: kind, R: -1})
		if kind > 2 {
			l = append(l, api.Command{Kind: kind, A: 1, B: 1}, api.Command{Kind: kind, A: 1, B: -1}, api.Command{Kind: kind, B: math.MaxInt})
		}
		if kind > 6 {
			l = append(l, some(kind, 1), some(kind, -1), some(kind, math.MinInt))
		}
	}
	for _, kind := range append([]int{0, 13, 14, 25, -2, 257, 268}, farOff...) {
		l = append(l, plain(kind), api.Command{Kind: kind, R: 97}, some(kind, 1))
	}
	return l
})

// wrongTerms are terminals that are not right, by names: each way in which grids, and cursors, are wrong.
func wrongTerms() map[string]api.Term {
	ca, cb := api.Cell{R: 97}, api.Cell{R: 98}
	l1, r1, l2, r2 := api.Cell{R: zhong, K: 1}, api.Cell{R: zhong, K: 2}, api.Cell{R: smile, K: 1}, api.Cell{R: smile, K: 2}
	m := map[string]api.Term{
		"zero": {}, "no cells": {G: grid(2, 1)}, "W 1": {G: grid(1, 2, ca, cb)}, "W 0": {G: grid(0, 1)}, "W 81": {G: grid(81, 1, blanks(81)...)},
		"H 0": {G: grid(2, 0)}, "H 25": {G: grid(2, 25, blanks(50)...)}, "W below 0": {G: grid(-2, 1)}, "both below 0": {G: grid(-2, -1, ca, cb), X: -3, Y: -2},
		"a cell less": {G: grid(3, 2, ca, ca, ca, ca, ca)}, "a cell more": {G: grid(2, 1, ca, ca, ca)}, "a row less": {G: grid(2, 2, ca, cb), Y: 1},
		"wraps round": {G: grid(1<<32, 1<<32), X: 1, Y: 1}, "greatest": {G: grid(math.MaxInt, math.MaxInt), X: 5, Y: 5}, "least": {G: grid(math.MinInt, math.MinInt)},
		"least, with Wrap": {G: grid(math.MinInt, 1), X: math.MaxInt, Wrap: true}, "W 0, with Wrap": {G: grid(0, 1), X: -1, Wrap: true},
		"left alone": {G: grid(3, 1, ca, l1, ca)}, "right alone": {G: grid(3, 1, ca, r1, ca)}, "left last": {G: grid(3, 1, ca, ca, l1)}, "right first": {G: grid(3, 1, r1, ca, ca)},
		"halves changed about": {G: grid(2, 1, r1, l1)}, "halves of two signs": {G: grid(2, 1, l1, r2)}, "parted by rows": {G: grid(3, 2, ca, ca, l2, r2, ca, ca)},
		"whole and wide": {G: grid(2, 1, ca, api.Cell{R: zhong})}, "half and narrow": {G: grid(2, 1, api.Cell{R: 97, K: 1}, api.Cell{R: 97, K: 2})},
		"a control": {G: grid(2, 1, ca, api.Cell{R: 10})}, "rubout": {G: grid(2, 1, ca, api.Cell{R: 127})}, "zero cell": {G: grid(2, 1, ca, api.Cell{})}, "kind 3": {G: grid(2, 1, ca, api.Cell{R: 97, K: 3})},
		"the last cell of many": {G: grid(80, 24, append(blanks(1919), l1)...), X: 79, Y: 23, Wrap: true},
	}
	for i, s := range greatSides {
		t := mixed(s[0], s[1], int64(i))
		for _, k := range farOff {
			m[fmt.Sprintf("%v: X %d", s, k)] = at(t, k, 0, false)
			m[fmt.Sprintf("%v: X %d, with Wrap", s, k)] = at(t, k, 0, true)
			if k > 23 || k < 0 {
				m[fmt.Sprintf("%v: Y %d", s, k)] = at(t, 0, k, false)
				m[fmt.Sprintf("%v: Y %d, with Wrap", s, k)] = at(t, s[0]-1, k, true)
				m[fmt.Sprintf("%v: both %d", s, k)] = at(t, k, k, false)
			}
		}
		m[fmt.Sprintf("%v: X is W", s)] = at(t, s[0], s[1]-1, false)
		m[fmt.Sprintf("%v: X is W, with Wrap", s)] = at(t, s[0], 0, true)
		m[fmt.Sprintf("%v: Y is H", s)] = at(t, 0, s[1], false)
		m[fmt.Sprintf("%v: Y is H, with Wrap", s)] = at(t, s[0]-1, s[1], true)
		m[fmt.Sprintf("%v: Wrap at 0", s)] = at(t, 0, 0, true)
		m[fmt.Sprintf("%v: Wrap ahead of the last column", s)] = at(t, s[0]-2, s[1]-1, true)
	}
	return m
}

func wantTerm(t *testing.T, what string, got api.Term, e api.Errno, want api.Term) {
	t.Helper()
	if !same(got, want) || e != api.OK {
		t.Fatalf("%s = %s, %d, want %s", what, show(got), e, show(want))
	}
}

func wantError(t *testing.T, what string, got api.Term, e, want api.Errno) {
	t.Helper()
	if !isZero(got) || e != want {
		t.Fatalf("%s = %s, %d, want nothing, and %d", what, show(got), e, want)
	}
}
