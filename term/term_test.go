package term_test

import (
	"fmt"
	"math/rand"
	"slices"
	"strings"
	"testing"

	"typebar/api"
	"typebar/term"
	"typebar/vt"
)

func TestNewOfAllSides(t *testing.T) { // P7.1, R1, R3
	sides := slices.Clone(farOff)
	for i := -3; i <= 90; i++ {
		sides = append(sides, i)
	}
	for _, w := range sides {
		for _, h := range sides {
			n, e := term.New(w, h)
			what := fmt.Sprintf("P7.1: New(%d, %d)", w, h)
			if w < 2 || w > 80 || h < 1 || h > 24 {
				wantError(t, what, n, e, api.ErrLimit)
				continue
			}
			wantTerm(t, what, n, e, api.Term{G: grid(w, h, blanks(w*h)...)})
			if !term.Is(n) {
				t.Fatalf("%s is not right", what)
			}
		}
	}
}

func TestNewOfEdges(t *testing.T) { // P7.1, written out
	n, e := term.New(3, 2)
	wantTerm(t, "P7.1: New(3, 2)", n, e, draw(0, 0, false, "   ", "   "))
	for _, s := range [][2]int{{2, 1}, {2, 24}, {80, 1}, {80, 24}} {
		if n, e := term.New(s[0], s[1]); e != api.OK || n.G.W != s[0] || n.G.H != s[1] || len(n.G.L) != s[0]*s[1] || n.X != 0 || n.Y != 0 || n.Wrap {
			t.Errorf("P7.1: New%v = %s, %d", s, show(n), e)
		}
	}
	for _, s := range [][2]int{{1, 1}, {81, 1}, {2, 0}, {2, 25}, {0, 0}, {-2, -1}, {81, 25}} {
		n, e := term.New(s[0], s[1])
		wantError(t, fmt.Sprint("P7.1: New", s), n, e, api.ErrLimit)
	}
}

func TestIsOfAllCursors(t *testing.T) { // P7.1, R1, R3
	for i, s := range greatSides {
		n := mixed(s[0], s[1], int64(i))
		columns, rows := slices.Clone(farOff), slices.Clone(farOff)
		for k := -3; k <= 83; k++ {
			columns, rows = append(columns, k), append(rows, k)
		}
		for _, x := range columns {
			for _, y := range rows {
				in := x >= 0 && x < s[0] && y >= 0 && y < s[1]
				if got := term.Is(at(n, x, y, false)); got != in {
					t.Fatalf("P7.1: Is of %v at %d, %d is %v", s, x, y, got)
				}
				if got := term.Is(at(n, x, y, true)); got != (in && x == s[0]-1) {
					t.Fatalf("P7.1: Is of %v at %d, %d, with Wrap, is %v", s, x, y, got)
				}
			}
		}
	}
}

func TestIsOfEdges(t *testing.T) { // P7.1, written out
	smallOnes(func(n api.Term) {
		if !term.Is(n) {
			t.Fatalf("P7.1: Is(%s) is false", show(n))
		}
	})
	for _, n := range []api.Term{
		draw(0, 0, false, "ab"), draw(1, 0, false, "ab"), draw(1, 0, true, "ab"), draw(2, 0, true, "a\u4e2d"), draw(1, 0, false, "a\u4e2d"), draw(2, 1, false, "a\u4e2d", "\u4e2da"),
	} {
		if !term.Is(n) {
			t.Errorf("P7.1: Is(%s) is false", show(n))
		}
	}
	for name, n := range wrongTerms() {
		if isRight(n) {
			t.Fatalf("%s: the test's own terminal is right", name)
		}
		if term.Is(n) {
			t.Errorf("P7.1: %s: Is(%s) is true", name, show(n))
		}
	}
}

// holdDo holds Do of n and c against the model.
func holdDo(t *testing.T, n api.Term, c api.Command) {
	t.Helper()
	got, e := term.Do(n, c)
	if want := did(n, c); !same(got, want) || e != api.OK {
		t.Fatalf("P7.2: Do(%s, %+v) = %s, %d, want %s", show(n), c, show(got), e, show(want))
	}
}

func TestDoOfSmallTerminals(t *testing.T) { // P7.2, R1
	smallOnes(func(n api.Term) {
		for _, c := range someCommands() {
			holdDo(t, n, c)
		}
	})
}

func TestDoOfGreatTerminals(t *testing.T) { // P7.2, R1
	greatOnes(func(n api.Term) {
		for _, c := range someCommands() {
			holdDo(t, n, c)
		}
	})
	for i, s := range greatSides {
		n := mixed(s[0], s[1], int64(i)+100)
		for _, c := range allCommands() {
			holdDo(t, at(n, s[0]/3, s[1]/2, false), c)
		}
		cursors(n, func(n api.Term) { // a blanking from each place, and a sign at each one
			for _, c := range []api.Command{plain(7), plain(8), text(97), text(zhong)} {
				holdDo(t, n, c)
			}
		})
	}
}

// deed is a terminal, commands, and what it becomes by them.
type deed struct {
	from api.Term
	l    []api.Command
	to   api.Term
}

func holdDeeds(t *testing.T, deeds []deed) {
	t.Helper()
	for i, x := range deeds {
		got, e := x.from, api.OK
		for _, c := range x.l {
			if got, e = term.Do(got, c); e != api.OK {
				break
			}
		}
		if !same(got, x.to) || e != api.OK {
			t.Errorf("P7.2: %d: %+v of %s = %s, %d, want %s", i, x.l, show(x.from), show(got), e, show(x.to))
		}
	}
}

func TestTextOfEdges(t *testing.T) { // P7.2, written out
	x, y, z := text('x'), text('y'), text(zhong)
	holdDeeds(t, []deed{
		// in the midst of a row
		{draw(0, 0, false, "abc", "def"), []api.Command{x}, draw(1, 0, false, "xbc", "def")},
		{draw(1, 0, false, "abc", "def"), []api.Command{x}, draw(2, 0, false, "axc", "def")},
		{draw(0, 1, false, "abc", "def"), []api.Command{z}, draw(2, 1, false, "abc", "中f")},
		// at the end of a row, above the last one: the next sign alone goes to the next row
		{draw(2, 0, false, "abc", "def"), []api.Command{x}, draw(2, 0, true, "abx", "def")},
		{draw(2, 0, true, "abx", "def"), []api.Command{y}, draw(1, 1, false, "abx", "yef")},
		{draw(2, 0, true, "abx", "def"), []api.Command{z}, draw(2, 1, false, "abx", "中f")},
		{draw(2, 0, false, "abc", "def"), []api.Command{z}, draw(2, 1, false, "abc", "中f")},
		{draw(1, 0, false, "abc", "def"), []api.Command{z}, draw(2, 0, true, "a中", "def")},
		{draw(1, 0, false, "abc", "def"), []api.Command{x}, draw(2, 0, false, "axc", "def")},
		// at the end of the last row: the grid is scrolled, and by the next sign alone
		{draw(2, 1, false, "abc", "def"), []api.Command{x}, draw(2, 1, true, "abc", "dex")},
		{draw(2, 1, true, "abc", "dex"), []api.Command{y}, draw(1, 1, false, "dex", "y  ")},
		{draw(2, 1, true, "abc", "dex"), []api.Command{z}, draw(2, 1, false, "dex", "中 ")},
		{draw(2, 1, false, "abc", "def"), []api.Command{z}, draw(2, 1, false, "def", "中 ")},
		{draw(1, 1, false, "abc", "def"), []api.Command{z}, draw(2, 1, true, "abc", "d中")},
		// a terminal of one row, and one of two columns, which a wide sign fills
		{draw(1, 0, true, "ab"), []api.Command{x}, draw(1, 0, false, "x ")},
		{draw(1, 0, false, "ab"), []api.Command{z}, draw(1, 0, true, "中")},
		{draw(1, 0, true, "中"), []api.Command{z}, draw(1, 0, true, "中")},
		{draw(0, 0, false, "ab", "cd"), []api.Command{z, z, z}, draw(1, 1, true, "中", "中")},
		{draw(0, 0, false, "ab"), []api.Command{x, y, x, y, x}, draw(1, 0, false, "x ")},
		// over halves
		{draw(0, 0, false, "中a"), []api.Command{x}, draw(1, 0, false, "x a")},
		{draw(1, 0, false, "中a"), []api.Command{x}, draw(2, 0, false, " xa")},
		{draw(1, 0, false, "中a"), []api.Command{z}, draw(2, 0, true, " 中")},
		{draw(0, 0, false, "a中"), []api.Command{z}, draw(2, 0, false, "中 ")},
		{draw(2, 0, true, "a中", "中b"), []api.Command{x}, draw(1, 1, false, "a中", "x b")},
		// Bad, a blank, and signs that are shown by one cell, however long their bytes are
		{draw(0, 0, false, "ab"), []api.Command{text(65533), text(32)}, draw(1, 0, true, "\ufffd ")},
		{draw(0, 0, false, "ab"), []api.Command{text(1114111), text(160)}, draw(1, 0, true, "\U0010ffff\u00a0")},
		// the signs of two cells with the least and the greatest numbers, and those beside them
		{draw(0, 0, false, "abc"), []api.Command{text(firstWide)}, draw(2, 0, false, "\u1100c")}, {draw(0, 0, false, "abc"), []api.Command{text(firstWide - 1)}, draw(1, 0, false, "\u10ffbc")},
		{draw(0, 0, false, "abc"), []api.Command{text(lastWide)}, draw(2, 0, false, "\U0003fffdc")}, {draw(0, 0, false, "abc"), []api.Command{text(lastWide + 1)}, draw(1, 0, false, "\U0003fffebc")},
	})
}

func TestMovesOfEdges(t *testing.T) { // P7.2, written out: at each border, by as much as there is, and by more
	g := draw(0, 0, false, "abcd", "e中f", "ghij")
	place := func(x, y int) api.Term { return at(g, x, y, false) }
	one := func(c api.Command) []api.Command { return []api.Command{c} }
	up, down, right, left := api.CmdUp, api.CmdDown, api.CmdRight, api.CmdLeft
	holdDeeds(t, []deed{
		{place(3, 2), one(goTo(0, 0)), place(0, 0)}, {place(0, 0), one(goTo(2, 3)), place(3, 2)}, {place(0, 0), one(goTo(1, 2)), place(2, 1)}, {place(2, 1), one(goTo(1, 2)), place(2, 1)},
		{place(0, 0), one(goTo(3, 4)), place(3, 2)}, {place(0, 0), one(goTo(23, 79)), place(3, 2)}, {place(2, 2), one(goTo(0, 79)), place(3, 0)}, {place(2, 2), one(goTo(23, 0)), place(0, 2)},
		{place(1, 2), one(some(up, 1)), place(1, 1)}, {place(1, 2), one(some(up, 2)), place(1, 0)}, {place(1, 2), one(some(up, 3)), place(1, 0)}, {place(3, 0), one(some(up, 1)), place(3, 0)}, {place(0, 2), one(some(up, 80)), place(0, 0)},
		{place(1, 0), one(some(down, 1)), place(1, 1)}, {place(1, 0), one(some(down, 2)), place(1, 2)}, {place(1, 0), one(some(down, 3)), place(1, 2)}, {place(3, 2), one(some(down, 1)), place(3, 2)}, {place(0, 0), one(some(down, 80)), place(0, 2)},
		{place(0, 1), one(some(right, 1)), place(1, 1)}, {place(0, 1), one(some(right, 3)), place(3, 1)}, {place(0, 1), one(some(right, 4)), place(3, 1)}, {place(3, 1), one(some(right, 1)), place(3, 1)}, {place(0, 2), one(some(right, 80)), place(3, 2)},
		{place(3, 1), one(some(left, 1)), place(2, 1)}, {place(3, 1), one(some(left, 3)), place(0, 1)}, {place(3, 1), one(some(left, 4)), place(0, 1)}, {place(0, 1), one(some(left, 1)), place(0, 1)}, {place(3, 0), one(some(left, 80)), place(0, 0)},
		{place(3, 1), one(plain(api.CmdHome)), place(0, 1)}, {place(0, 2), one(plain(api.CmdHome)), place(0, 2)},
		{place(3, 1), one(plain(api.CmdBack)), place(2, 1)}, {place(1, 2), one(plain(api.CmdBack)), place(0, 2)}, {place(0, 2), one(plain(api.CmdBack)), place(0, 2)}, {place(0, 0), one(plain(api.CmdBack)), place(0, 0)},
		{place(2, 0), one(plain(api.CmdFeed)), place(2, 1)}, {place(3, 1), one(plain(api.CmdFeed)), place(3, 2)},
		{place(1, 2), one(plain(api.CmdFeed)), draw(1, 2, false, "e中f", "ghij", "    ")},
		{place(1, 2), []api.Command{plain(10), plain(10), plain(10)}, draw(1, 2, false, "    ", "    ", "    ")},
		{draw(0, 0, false, "中"), one(plain(api.CmdFeed)), draw(0, 0, false, "  ")},
		{place(2, 1), one(plain(api.CmdBell)), place(2, 1)},
	})
}

func TestWrapOfEdges(t *testing.T) { // P7.2, written out: what ends it, and what does not
	g := draw(3, 1, true, "abcd", "e中f", "ghij")
	place := func(x, y int) api.Term { return at(g, x, y, false) }
	for _, x := range []struct {
		c  api.Command
		to api.Term
	}{
		{plain(api.CmdBell), g}, {goTo(1, 3), place(3, 1)}, {goTo(1, 79), place(3, 1)}, {goTo(0, 0), place(0, 0)},
		{some(api.CmdUp, 1), place(3, 0)}, {some(api.CmdUp, 9), place(3, 0)}, {some(api.CmdDown, 1), place(3, 2)}, {some(api.CmdDown, 9), place(3, 2)},
		{some(api.CmdRight, 1), place(3, 1)}, {some(api.CmdRight, 80), place(3, 1)}, {some(api.CmdLeft, 1), place(2, 1)}, {some(api.CmdLeft, 3), place(0, 1)}, {some(api.CmdLeft, 80), place(0, 1)},
		{plain(api.CmdHome), place(0, 1)}, {plain(api.CmdBack), place(2, 1)}, {plain(api.CmdFeed), place(3, 2)},
		{plain(api.CmdRow), draw(3, 1, false, "abcd", "e中 ", "ghij")}, {plain(api.CmdAll), draw(3, 1, false, "abcd", "e中 ", "    ")},
		{text('x'), draw(1, 2, false, "abcd", "e中f", "xhij")}, {text(zhong), draw(2, 2, false, "abcd", "e中f", "中ij")},
	} {
		holdDeeds(t, []deed{{g, []api.Command{x.c}, x.to}, {g, []api.Command{plain(api.CmdBell), x.c}, x.to}})
	}
	last := draw(3, 2, true, "abcd", "e中f", "ghij")
	holdDeeds(t, []deed{
		{last, []api.Command{plain(api.CmdFeed)}, draw(3, 2, false, "e中f", "ghij", "    ")}, {last, []api.Command{some(api.CmdDown, 1)}, at(last, 3, 2, false)},
		{last, []api.Command{text('x')}, draw(1, 2, false, "e中f", "ghij", "x   ")}, {last, []api.Command{plain(api.CmdBell)}, last},
		{last, []api.Command{some(api.CmdRight, 1), text('x')}, draw(3, 2, true, "abcd", "e中f", "ghix")},
		{last, []api.Command{some(api.CmdRight, 1), text(zhong)}, draw(2, 2, false, "e中f", "ghij", "中  ")},
	})
}

func TestBlankingOfEdges(t *testing.T) { // P7.2, written out: from each place, at signs of two cells, too
	g := draw(0, 0, false, "a中b", "中cd", "中中")
	row, all := []api.Command{plain(api.CmdRow)}, []api.Command{plain(api.CmdAll)}
	from := func(x, y int) api.Term { return at(g, x, y, false) }
	holdDeeds(t, []deed{
		{from(0, 0), row, draw(0, 0, false, "    ", "中cd", "中中")}, {from(1, 0), row, draw(1, 0, false, "a   ", "中cd", "中中")}, {from(2, 0), row, draw(2, 0, false, "a   ", "中cd", "中中")}, {from(3, 0), row, draw(3, 0, false, "a中 ", "中cd", "中中")},
		{from(0, 1), row, draw(0, 1, false, "a中b", "    ", "中中")}, {from(1, 1), row, draw(1, 1, false, "a中b", "    ", "中中")}, {from(2, 1), row, draw(2, 1, false, "a中b", "中  ", "中中")}, {from(3, 1), row, draw(3, 1, false, "a中b", "中c ", "中中")},
		{from(0, 2), row, draw(0, 2, false, "a中b", "中cd", "    ")}, {from(1, 2), row, draw(1, 2, false, "a中b", "中cd", "    ")}, {from(2, 2), row, draw(2, 2, false, "a中b", "中cd", "中  ")}, {from(3, 2), row, draw(3, 2, false, "a中b", "中cd", "中  ")},
		{from(0, 0), all, draw(0, 0, false, "    ", "    ", "    ")}, {from(1, 0), all, draw(1, 0, false, "a   ", "    ", "    ")}, {from(2, 0), all, draw(2, 0, false, "a   ", "    ", "    ")}, {from(3, 0), all, draw(3, 0, false, "a中 ", "    ", "    ")},
		{from(0, 1), all, draw(0, 1, false, "a中b", "    ", "    ")}, {from(1, 1), all, draw(1, 1, false, "a中b", "    ", "    ")}, {from(2, 1), all, draw(2, 1, false, "a中b", "中  ", "    ")}, {from(3, 1), all, draw(3, 1, false, "a中b", "中c ", "    ")},
		{from(0, 2), all, draw(0, 2, false, "a中b", "中cd", "    ")}, {from(1, 2), all, draw(1, 2, false, "a中b", "中cd", "    ")}, {from(2, 2), all, draw(2, 2, false, "a中b", "中cd", "中  ")}, {from(3, 2), all, draw(3, 2, false, "a中b", "中cd", "中  ")},
	})
}

func TestDoOfWrongInputs(t *testing.T) { // P7.2, R1, R3
	right := []api.Term{draw(0, 0, false, "ab"), draw(1, 1, true, "ab", "中"), at(mixed(80, 24, 1), 79, 23, true)}
	for _, c := range wrongCommands() {
		if vt.Is(c) {
			t.Fatalf("the test's own command is right: %+v", c)
		}
		for _, n := range right {
			got, e := term.Do(n, c)
			wantError(t, fmt.Sprintf("P7.2: Do(%s, %+v)", show(n), c), got, e, api.ErrArg)
		}
	}
	for name, n := range wrongTerms() {
		for _, c := range append(someCommands(), wrongCommands()...) {
			got, e := term.Do(n, c)
			wantError(t, fmt.Sprintf("P7.2: %s: Do of %+v", name, c), got, e, api.ErrArg)
		}
	}
}

// holdFeed holds Feed, of the bytes of l and of part behind them, which is no whole command, against the model.
func holdFeed(t *testing.T, n api.Term, l []api.Command, part string) {
	t.Helper()
	got, left, e := term.Feed(n, bytesOf(l...)+part)
	if want := did(n, l...); !same(got, want) || left != part || e != api.OK {
		t.Fatalf("P7.3: Feed(%s, %q) = %s, %q, %d, want %s, %q", show(n), bytesOf(l...)+part, show(got), left, e, show(want), part)
	}
}

func bytesOf(l ...api.Command) string {
	s := ""
	for _, c := range l {
		b, _ := vt.Put(c)
		s += b
	}
	return s
}

// parts are beginnings of commands, and none at all.
var parts = []string{"", "\x1b", "\x1b[", "\x1b[2", "\x1b[80", "\x1b[24;", "\x1b[24;80", "\xc2", "\xe4", "\xe4\xb8", "\xf0\x9f\x98"}

// wrongBytes neither begin with a command's bytes, nor are a beginning of one's.
var wrongBytes = []string{"\x00", "\x01", "\x1b\x1b", "\x1bA", "\x1b[H", "\x1b[E", "\x1b[0", "\x1b[1A", "\x1b[2J", "\x1b[81", "\x1b[25;", "\x1b[1;81", "\x7f", "\x80", "\xc2\x80", "\xe4a", "\xff"}

func TestFeedOfEdges(t *testing.T) { // P7.3, written out
	for i, x := range []struct {
		from api.Term
		s    string
		to   api.Term
		left string
	}{
		{draw(1, 0, true, "ab"), "", draw(1, 0, true, "ab"), ""},
		{draw(1, 0, true, "ab"), "\x1b[", draw(1, 0, true, "ab"), "\x1b["},
		{draw(0, 0, false, "    "), "\x1b[1;1H> a \x1b[A", draw(3, 0, false, "> a "), ""},
		{draw(0, 0, false, "    "), "> a ", draw(3, 0, true, "> a "), ""},
		{draw(0, 0, false, "   ", "   "), "ab\xe4\xb8\xadc", draw(2, 1, true, "ab ", "中c"), ""},
		{draw(0, 0, false, "   ", "   "), "ab\xe4\xb8\xadc\xe4\xb8", draw(2, 1, true, "ab ", "中c"), "\xe4\xb8"},
		{draw(0, 0, false, "   ", "   "), "abc\r\ndef\b\bx\a\x1b[", draw(1, 1, false, "abc", "xef"), "\x1b["},
		{draw(0, 0, false, "   ", "   "), "a\nb\nc", draw(2, 1, true, " b ", "  c"), ""},
		{draw(2, 1, true, "abc", "def"), "\x1b[A\x1b[2D\x1b[K\x1b[2;2Hx\x1b[J\x1b[8", draw(2, 1, false, "   ", "dx "), "\x1b[8"},
		{draw(0, 0, false, "abc", "def"), "\x1b[5B\x1b[5C\x1b[5A\x1b[5D\x1b[B\x1b[Cy\x1b[24;80", draw(2, 1, false, "abc", "dyf"), "\x1b[24;80"},
	} {
		if got, left, e := term.Feed(x.from, x.s); !same(got, x.to) || left != x.left || e != api.OK {
			t.Errorf("P7.3: %d: Feed(%s, %q) = %s, %q, %d, want %s, %q", i, show(x.from), x.s, show(got), left, e, show(x.to), x.left)
		}
	}
}

// handful is n right commands, one behind the other: most of them signs, so that rows are filled.
func handful(g *rand.Rand, n int) []api.Command {
	l := make([]api.Command, n)
	for i := range l {
		l[i] = text([]rune{97, 98, 32, 65533, zhong, smile}[g.Intn(6)])
		if g.Intn(3) == 0 {
			l[i] = someCommands()[g.Intn(len(someCommands()))]
		}
	}
	return l
}

func TestFeedOfManyCommands(t *testing.T) { // P7.3, P7.5
	g := rand.New(rand.NewSource(7))
	sides := append([][2]int{{2, 2}, {3, 1}, {3, 2}, {4, 3}, {5, 2}}, greatSides...)
	for i := range 3000 {
		s := sides[i%len(sides)]
		n := mixed(s[0], s[1], int64(i))
		n.X, n.Y = g.Intn(s[0]), g.Intn(s[1])
		n.Wrap = n.X == s[0]-1 && i%2 == 0
		l := handful(g, g.Intn(30))
		holdFeed(t, n, l, parts[i%len(parts)])
	}
}

func TestFeedOfEachPartAndOfWrongBytes(t *testing.T) { // P7.3, R1
	n := draw(2, 0, true, "a中", "bcd")
	l := []api.Command{text('x'), plain(api.CmdFeed), text(zhong), goTo(0, 1), plain(api.CmdRow), some(api.CmdDown, 3)}
	for _, part := range parts {
		for k := range len(l) + 1 {
			holdFeed(t, n, l[:k], part)
		}
	}
	for _, s := range wrongBytes {
		for k := range len(l) + 1 {
			for _, tail := range []string{"", "a", "\x1b[K", "\x1b["} {
				what := bytesOf(l[:k]...) + s + tail
				got, left, e := term.Feed(n, what)
				wantError(t, fmt.Sprintf("P7.3: Feed of %q", what), got, e, api.ErrForm)
				if left != "" {
					t.Fatalf("P7.3: Feed of %q leaves %q", what, left)
				}
			}
		}
	}
	for name, n := range wrongTerms() {
		for _, s := range slices.Concat([]string{"a", "\a", "\x1b[K", "ab\r\n"}, parts, wrongBytes) {
			got, left, e := term.Feed(n, s)
			wantError(t, fmt.Sprintf("P7.3: %s: Feed of %q", name, s), got, e, api.ErrArg)
			if left != "" {
				t.Fatalf("P7.3: %s: Feed of %q leaves %q", name, s, left)
			}
		}
	}
}

func TestFedInTwoParts(t *testing.T) { // P7.5: wherever bytes are cut
	g := rand.New(rand.NewSource(8))
	for i := range 300 {
		n := mixed(2+i%6, 1+i%4, int64(i))
		l := handful(g, i%20)
		part := parts[i%len(parts)]
		s := bytesOf(l...) + part
		want := did(n, l...)
		for cut := range len(s) + 1 {
			front, left, e := term.Feed(n, s[:cut])
			if e != api.OK || !strings.HasSuffix(s[:cut], left) || len(left) > 7 {
				t.Fatalf("P7.5: Feed of %q, of %q = %q, %d", s[:cut], s, left, e)
			}
			got, left, e := term.Feed(front, left+s[cut:])
			if !same(got, want) || left != part || e != api.OK {
				t.Fatalf("P7.5: %q, cut at %d, makes of %s %s, %q, %d, want %s", s, cut, show(n), show(got), left, e, show(want))
			}
		}
	}
}

func TestFeedOfLongTexts(t *testing.T) { // P7.3, R1
	n, _ := term.New(80, 24)
	got, left, e := term.Feed(n, strings.Repeat("a", 5000)+"\r\n"+strings.Repeat("中", 900)+"\xe4")
	if want := did(n, append(append(slices.Repeat([]api.Command{text('a')}, 5000), plain(9), plain(10)), slices.Repeat([]api.Command{text(zhong)}, 900)...)...); !same(got, want) || left != "\xe4" || e != api.OK {
		t.Errorf("P7.3: Feed = %s, %q, %d", show(got), left, e)
	}
}

func TestResizeOfAllSides(t *testing.T) { // P7.4
	smallOnes(func(n api.Term) {
		for w := 2; w <= 6; w++ {
			for h := 1; h <= 4; h++ {
				got, e := term.Resize(n, w, h)
				wantTerm(t, fmt.Sprintf("P7.4: Resize(%s, %d, %d)", show(n), w, h), got, e, resized(n, w, h))
			}
		}
	})
	for i, s := range greatSides {
		for _, c := range [][2]int{{0, 0}, {s[0] - 1, s[1] - 1}, {s[0] / 2, s[1] / 2}, {0, s[1] - 1}, {s[0] - 1, 0}} {
			n := at(mixed(s[0], s[1], int64(i)), c[0], c[1], c[0] == s[0]-1)
			for w := 2; w <= 80; w++ {
				for h := 1; h <= 24; h += 1 + w%5 {
					got, e := term.Resize(n, w, h)
					wantTerm(t, fmt.Sprintf("P7.4: Resize of %v at %v to %d, %d", s, c, w, h), got, e, resized(n, w, h))
				}
			}
		}
	}
}

func TestResizeOfEdges(t *testing.T) { // P7.4, written out
	for i, x := range []struct {
		from api.Term
		w, h int
		to   api.Term
	}{
		// the same sides: but Wrap ends
		{draw(1, 1, false, "abc", "d中"), 3, 2, draw(1, 1, false, "abc", "d中")}, {draw(2, 1, true, "abc", "d中"), 3, 2, draw(2, 1, false, "abc", "d中")},
		// greater ones
		{draw(2, 1, true, "abc", "d中"), 4, 3, draw(2, 1, false, "abc ", "d中 ", "    ")}, {draw(0, 0, false, "ab"), 2, 2, draw(0, 0, false, "ab", "  ")}, {draw(1, 0, true, "ab"), 3, 1, draw(1, 0, false, "ab ")},
		// lesser ones, the cursor inside and outside
		{draw(1, 0, false, "abc", "d中"), 2, 1, draw(1, 0, false, "ab")}, {draw(2, 0, true, "abc", "d中"), 2, 2, draw(1, 0, false, "ab", "d ")}, {draw(2, 1, false, "abc", "d中"), 3, 1, draw(2, 0, false, "abc")},
		{draw(2, 1, true, "abc", "d中"), 2, 1, draw(1, 0, false, "ab")}, {draw(0, 1, false, "abc", "d中"), 2, 1, draw(0, 0, false, "ab")}, {draw(1, 1, false, "abc", "中d"), 2, 2, draw(1, 1, false, "ab", "中")},
		// one lesser, and one greater
		{draw(2, 1, true, "abc", "d中"), 2, 3, draw(1, 1, false, "ab", "d ", "  ")}, {draw(2, 1, true, "abc", "d中"), 5, 1, draw(2, 0, false, "abc  ")},
	} {
		if got, e := term.Resize(x.from, x.w, x.h); !same(got, x.to) || e != api.OK {
			t.Errorf("P7.4: %d: Resize(%s, %d, %d) = %s, %d, want %s", i, show(x.from), x.w, x.h, show(got), e, show(x.to))
		}
	}
	great := at(mixed(80, 24, 9), 79, 23, true)
	for _, s := range [][2]int{{2, 1}, {80, 24}, {2, 24}, {80, 1}} {
		if got, e := term.Resize(great, s[0], s[1]); e != api.OK || got.G.W != s[0] || got.G.H != s[1] || got.X != s[0]-1 || got.Y != s[1]-1 || got.Wrap {
			t.Errorf("P7.4: Resize of 80, 24 to %v = %s, %d", s, show(got), e)
		}
	}
}

func TestResizeOfWrongInputs(t *testing.T) { // P7.4, R1, R3
	right := []api.Term{draw(0, 0, false, "ab"), draw(2, 1, true, "abc", "d中"), at(mixed(80, 24, 1), 79, 23, true)}
	sides := [][2]int{{1, 1}, {81, 1}, {2, 0}, {2, 25}, {0, 0}, {-2, -1}, {1, 0}, {81, 25}, {80, 25}, {81, 24}, {1, 24}}
	for _, k := range farOff {
		sides = append(sides, [2]int{k, 1}, [2]int{k, k}, [2]int{k, 25})
		if k < 1 || k > 24 {
			sides = append(sides, [2]int{2, k}, [2]int{80, k})
		}
	}
	for _, s := range sides {
		for _, n := range right {
			got, e := term.Resize(n, s[0], s[1])
			wantError(t, fmt.Sprintf("P7.4: Resize(%s, %d, %d)", show(n), s[0], s[1]), got, e, api.ErrLimit)
		}
	}
	for name, n := range wrongTerms() {
		for _, s := range append(sides, [2]int{2, 1}, [2]int{80, 24}, [2]int{n.G.W, n.G.H}) {
			got, e := term.Resize(n, s[0], s[1])
			wantError(t, fmt.Sprintf("P7.4: %s: Resize to %v", name, s), got, e, api.ErrArg)
		}
	}
}

func TestWhatComesOfRightTerminalsIsRight(t *testing.T) { // P7.5
	check := func(what string, n api.Term, e api.Errno) {
		t.Helper()
		if e == api.OK && (!term.Is(n) || !isRight(n)) {
			t.Fatalf("P7.5: %s tells %s, which is not right", what, show(n))
		}
	}
	smallOnes(func(n api.Term) {
		for _, c := range someCommands() {
			got, e := term.Do(n, c)
			check(fmt.Sprintf("Do(%s, %+v)", show(n), c), got, e)
		}
		got, _, e := term.Feed(n, "a\xe4\xb8\xadb\n\x1b[2C\xf0\x9f\x98\x80\r")
		check(fmt.Sprintf("Feed(%s)", show(n)), got, e)
		for _, s := range [][2]int{{2, 1}, {3, 2}, {4, 1}, {9, 9}} {
			got, e := term.Resize(n, s[0], s[1])
			check(fmt.Sprintf("Resize(%s, %v)", show(n), s), got, e)
		}
	})
	g := rand.New(rand.NewSource(9))
	for i := range 60 { // a long way of commands and sides
		n := mixed(2+i%9, 1+i%7, int64(i))
		for range 60 {
			e := api.OK
			if g.Intn(8) == 0 {
				n, e = term.Resize(n, 2+g.Intn(9), 1+g.Intn(7))
			} else {
				n, e = term.Do(n, handful(g, 1)[0])
			}
			if e != api.OK {
				t.Fatalf("P7.5: %d", e)
			}
			check("a long way", n, e)
		}
	}
}

func TestMovesChangeNoCell(t *testing.T) { // P7.5: and lead where a CmdGo would lead
	moves := append(fourOf(1), plain(api.CmdHome), plain(api.CmdBack))
	for _, n := range []int{2, 3, 24, 79, 80} {
		moves = append(moves, fourOf(n)...)
	}
	check := func(n api.Term) {
		for _, c := range moves {
			got, e := term.Do(n, c)
			if e != api.OK || !slices.Equal(got.G.L, n.G.L) {
				t.Fatalf("P7.5: Do(%s, %+v) = %s, %d", show(n), c, show(got), e)
			}
			y, x := n.Y, n.X
			switch c.Kind {
			case api.CmdUp:
				y = max(y-c.A, 0)
			case api.CmdDown:
				y = min(y+c.A, 23)
			case api.CmdRight:
				x = min(x+c.A, 79)
			case api.CmdLeft:
				x = max(x-c.A, 0)
			case api.CmdHome:
				x = 0
			case api.CmdBack:
				x = max(x-1, 0)
			}
			if by, e := term.Do(n, goTo(y, x)); e != api.OK || !same(by, got) {
				t.Fatalf("P7.5: of %s %+v makes %s, and CmdGo %s, %d", show(n), c, show(got), show(by), e)
			}
		}
	}
	smallOnes(check)
	greatOnes(check)
}

func TestAsManySignsAsCellsFillTheGrid(t *testing.T) { // P7.5
	for w := 2; w <= 80; w += 1 + w%7 {
		for h := 1; h <= 24; h += 1 + h%4 {
			n, _ := term.New(w, h)
			s := ""
			for i := range w * h {
				s += string(rune('!' + i%90))
			}
			got, left, e := term.Feed(n, s)
			if e != api.OK || left != "" || got.X != w-1 || got.Y != h-1 || !got.Wrap {
				t.Fatalf("P7.5: %d, %d: %s, %q, %d", w, h, show(got), left, e)
			}
			for i, c := range got.G.L {
				if c != (api.Cell{R: rune('!' + i%90)}) {
					t.Fatalf("P7.5: %d, %d: the cell %d is %+v", w, h, i, c)
				}
			}
			more, _, _ := term.Feed(got, "x") // one sign more is the first that scrolls
			if !slices.Equal(more.G.L[:w*(h-1)], got.G.L[w:]) || more.G.L[w*(h-1)].R != 'x' || more.X != 1 || more.Wrap {
				t.Fatalf("P7.5: %d, %d: one sign more makes %s", w, h, show(more))
			}
		}
	}
}

func TestArgumentsAndAnswersStayAsTheyAre(t *testing.T) { // R2, R4
	// A list with more room behind it: whoever appends to it, or writes in it, is seen.
	room := mixed(4, 6, 11).G.L
	first := api.Term{G: api.Grid{W: 4, H: 3, L: room[:12]}, X: 3, Y: 2, Wrap: true}
	if !isRight(first) {
		t.Fatal("the test's own terminal is not right")
	}
	held := slices.Clone(room)
	var answers, copies []api.Term
	keep := func(n api.Term) {
		answers = append(answers, n)
		copies = append(copies, kept(n))
	}
	tell := func(n api.Term) {
		cursors(n, func(n api.Term) {
			for _, c := range []api.Command{text(97), text(zhong), goTo(1, 1), some(3, 1), some(4, 1), some(5, 1), some(6, 1), plain(7), plain(8), plain(9), plain(10), plain(11), plain(12), plain(13)} {
				got, _ := term.Do(n, c)
				keep(got)
			}
			got, _, _ := term.Feed(n, "ab\xe4\xb8\xad\n\x1b[J\r\n\n")
			keep(got)
			for _, s := range []string{"", "\x1b[", "ab\x00"} {
				got, _, _ = term.Feed(n, s)
				keep(got)
			}
			for _, s := range [][2]int{{4, 3}, {2, 1}, {3, 4}, {5, 2}, {1, 1}} {
				got, _ := term.Resize(n, s[0], s[1])
				keep(got)
			}
			term.Is(n)
		})
	}
	tell(first)
	for _, n := range slices.Clone(answers) {
		if n.G.W > 0 {
			tell(n)
		}
	}
	for _, n := range wrongTerms() {
		was := kept(n)
		term.Do(n, text(97))
		term.Feed(n, "a\n")
		term.Resize(n, 3, 2)
		if !same(n, was) {
			t.Fatalf("R2: what was handed in was changed: %s, and before %s", show(n), show(was))
		}
	}
	n, _ := term.New(4, 2)
	keep(n)
	if !slices.Equal(room, held) {
		t.Fatalf("R2: what was handed in was changed: %v, and before %v", room, held)
	}
	for i := range answers {
		if !same(answers[i], copies[i]) {
			t.Fatalf("R2: what came out was changed later: %s, and before %s", show(answers[i]), show(copies[i]))
		}
	}
	if again, _ := term.New(4, 2); !same(again, draw(0, 0, false, "    ", "    ")) {
		t.Fatalf("R2: New tells another thing later: %s", show(again))
	}
}
