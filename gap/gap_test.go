package gap_test

import (
	"math/rand"
	"slices"
	"testing"

	"typebar/api"
	"typebar/gap"
)

// isSame tells whether a and b are one line with one point; a list that is empty may be nil.
func isSame(a, b api.Gap) bool { return slices.Equal(a.A, b.A) && slices.Equal(a.B, b.B) }

// lent tells l as a part of a longer list, which somebody else may have, and whether that one is yet as it was.
func lent(l []rune) ([]rune, func() bool) {
	others := []rune{120, 121, 122}
	long := slices.Concat(others, l, slices.Repeat(others, 70))
	held := slices.Clone(long)
	return long[len(others) : len(others)+len(l)], func() bool { return slices.Equal(long, held) }
}

// lentGap tells g with both lists lent, and whether what they are lent from is yet as it was.
func lentGap(g api.Gap) (api.Gap, func() bool) {
	a, isA := lent(g.A)
	b, isB := lent(g.B)
	return api.Gap{A: a, B: b}, func() bool { return isA() && isB() }
}

// lentWhole tells g with its lists lent from one that has them side by side, so that behind A there is B.
func lentWhole(g api.Gap) (api.Gap, func() bool) {
	l, is := lent(slices.Concat(g.A, g.B))
	return api.Gap{A: l[:len(g.A)], B: l[len(g.A):]}, is
}

var lenders = []func(api.Gap) (api.Gap, func() bool){lentGap, lentWhole}

func holdSame(t *testing.T, isSame func() bool) {
	t.Helper()
	if !isSame() {
		t.Fatal("R2: what was handed in was changed, or what stands behind it")
	}
}

func holdIs(t *testing.T, g api.Gap, want bool) {
	t.Helper()
	for _, lend := range lenders {
		g, same := lend(g)
		if gap.Is(g) != want {
			t.Fatalf("P10.1: Is(%v) = %v", g, !want)
		}
		if l := gap.Text(g); !slices.Equal(l, slices.Concat(g.A, g.B)) {
			t.Fatalf("P10.1: Text(%v) = %v", g, l)
		}
		holdSame(t, same)
	}
}

func holdOf(t *testing.T, l []rune, at int, want api.Gap, wantE api.Errno) {
	t.Helper()
	l, same := lent(l)
	if g, e := gap.Of(l, at); !isSame(g, want) || e != wantE {
		t.Fatalf("P10.1: Of(%v, %d) = %v, %d, want %v, %d", l, at, g, e, want, wantE)
	}
	holdSame(t, same)
}

func holdInsert(t *testing.T, g api.Gap, l []rune, want api.Gap, wantE api.Errno) {
	t.Helper()
	for _, lend := range lenders {
		g, same := lend(g)
		l, sameL := lent(l)
		if got, e := gap.Insert(g, l); !isSame(got, want) || e != wantE {
			t.Fatalf("P10.2: Insert(%v, %v) = %v, %d, want %v, %d", g, l, got, e, want, wantE)
		}
		holdSame(t, same)
		holdSame(t, sameL)
	}
}

func holdCut(t *testing.T, g api.Gap, n int, want api.Gap, wantL []rune) {
	t.Helper()
	for _, lend := range lenders {
		g, same := lend(g)
		if got, l := gap.Cut(g, n); !isSame(got, want) || !slices.Equal(l, wantL) {
			t.Fatalf("P10.3: Cut(%v, %d) = %v, %v, want %v, %v", g, n, got, l, want, wantL)
		}
		holdSame(t, same)
	}
}

func holdGo(t *testing.T, g api.Gap, at int, want api.Gap) {
	t.Helper()
	for _, lend := range lenders {
		g, same := lend(g)
		if got := gap.Go(g, at); !isSame(got, want) {
			t.Fatalf("P10.4: Go(%v, %d) = %v, want %v", g, at, got, want)
		}
		holdSame(t, same)
	}
}

// holdAll holds all calls against the model m: what is put in is each of ls, and the numbers of cuts, and the places, are ns.
func holdAll(t *testing.T, m model, ls [][]rune, ns []int) {
	t.Helper()
	g := m.gap()
	holdIs(t, g, true)
	holdOf(t, m.text(), m.at(), g, api.OK)
	for _, l := range ls {
		want, e := m.insert(l)
		if e != api.OK {
			holdInsert(t, g, l, api.Gap{}, e)
			continue
		}
		holdInsert(t, g, l, want.gap(), api.OK)
		holdThereAndBack(t, g, l)
	}
	for _, n := range ns {
		want, l := m.cut(n)
		holdCut(t, g, n, want.gap(), l)
		holdOutAndIn(t, g, n)
		holdGo(t, g, n, m.goTo(n).gap())
	}
}

// holdThereAndBack holds that what is put in, and cut again, leaves g as it was (P10.5).
func holdThereAndBack(t *testing.T, g api.Gap, l []rune) {
	t.Helper()
	in, _ := gap.Insert(g, l)
	if !gap.Is(in) {
		t.Fatalf("P10.5: Insert(%v, %v) = %v, which is not right", g, l, in)
	}
	if back, out := gap.Cut(in, -len(l)); !isSame(back, g) || !slices.Equal(out, l) {
		t.Fatalf("P10.5: %v with %v in, and out again, is %v, and %v", g, l, back, out)
	}
	ahead := gap.Go(in, len(g.A))
	if back, out := gap.Cut(ahead, len(l)); !isSame(back, g) || !slices.Equal(out, l) {
		t.Fatalf("P10.5: %v with %v in, and out from ahead of it, is %v, and %v", g, l, back, out)
	}
}

// holdOutAndIn holds that what is cut, and put in again, makes the line that it was (P10.5).
func holdOutAndIn(t *testing.T, g api.Gap, n int) {
	t.Helper()
	out, l := gap.Cut(g, n)
	if !gap.Is(out) || !gap.Is(gap.Go(g, n)) {
		t.Fatalf("P10.5: Cut(%v, %d) = %v, or Go, is not right", g, n, out)
	}
	want := g
	if n > 0 {
		want = gap.Go(g, len(g.A)+len(l))
	}
	if back, e := gap.Insert(out, l); !isSame(back, want) || e != api.OK {
		t.Fatalf("P10.5: %v with %v out, and in again, is %v, %d", g, l, back, e)
	}
}

// some tells n signs, each another one.
func some(n int) []rune {
	var l []rune
	for i := range n {
		l = append(l, rune(1000+i))
	}
	return l
}

// parted tells the line of all of l, with `at` of them ahead of its point.
func parted(l []rune, at int) api.Gap { return api.Gap{A: l[:at], B: l[at:]} }

func runes(s string) []rune { return []rune(s) }

func line(a, b string) api.Gap { return api.Gap{A: runes(a), B: runes(b)} }

func TestIsAndText(t *testing.T) { // P10.1, written out
	for _, x := range []struct {
		g  api.Gap
		is bool
	}{
		{api.Gap{}, true}, {api.Gap{A: []rune{}, B: []rune{}}, true}, {line("a", ""), true}, {line("", "a"), true}, {line("ab", "cd"), true},
		{parted(some(199), 0), true}, {parted(some(199), 199), true}, {parted(some(200), 0), true}, {parted(some(200), 1), true}, {parted(some(200), 100), true}, {parted(some(200), 200), true},
		{parted(some(201), 0), false}, {parted(some(201), 1), false}, {parted(some(201), 100), false}, {parted(some(201), 200), false}, {parted(some(201), 201), false},
		{parted(some(400), 200), false}, {parted(some(3000), 0), false}, {parted(some(65536+2), 1), false},
		{api.Gap{A: []rune{-1}}, false}, {api.Gap{B: []rune{-1}}, false}, {api.Gap{A: []rune{97, 55296}, B: []rune{97}}, false}, {api.Gap{A: []rune{97}, B: []rune{1114112, 97}}, false},
	} {
		holdIs(t, x.g, x.is)
	}
	if l := gap.Text(line("ab", "cd")); string(l) != "abcd" {
		t.Errorf("P10.1: Text = %q", string(l))
	}
	if l := gap.Text(api.Gap{A: []rune{-1, 97}, B: []rune{55296}}); !slices.Equal(l, []rune{-1, 97, 55296}) {
		t.Errorf("P10.1: Text of what is not right = %v", l)
	}
}

func TestOf(t *testing.T) { // P10.1, written out
	for _, x := range []struct {
		l    []rune
		at   int
		want api.Gap
		e    api.Errno
	}{
		{nil, 0, api.Gap{}, 0}, {[]rune{}, 0, api.Gap{}, 0}, {nil, -1, api.Gap{}, 1}, {nil, 1, api.Gap{}, 1},
		{runes("abc"), -1, api.Gap{}, 1}, {runes("abc"), 0, line("", "abc"), 0}, {runes("abc"), 1, line("a", "bc"), 0}, {runes("abc"), 2, line("ab", "c"), 0}, {runes("abc"), 3, line("abc", ""), 0}, {runes("abc"), 4, api.Gap{}, 1},
		{some(199), 199, parted(some(199), 199), 0}, {some(199), 200, api.Gap{}, 1}, {some(200), 0, parted(some(200), 0), 0}, {some(200), 77, parted(some(200), 77), 0}, {some(200), 200, parted(some(200), 200), 0}, {some(200), 201, api.Gap{}, 1},
		{some(201), 0, api.Gap{}, 5}, {some(201), 100, api.Gap{}, 5}, {some(201), 201, api.Gap{}, 5}, {some(201), 202, api.Gap{}, 1}, {some(201), -1, api.Gap{}, 1},
		{some(3000), 5, api.Gap{}, 5}, {some(3000), 3000, api.Gap{}, 5}, {some(3000), 3001, api.Gap{}, 1},
		{append(some(200), -1), 3, api.Gap{}, 1}, {append([]rune{55296}, some(200)...), 3, api.Gap{}, 1}, {append(some(2000), 1114112), 3, api.Gap{}, 1},
	} {
		holdOf(t, x.l, x.at, x.want, x.e)
	}
	for _, at := range farOff {
		holdOf(t, nil, at, api.Gap{}, 1)
		holdOf(t, runes("abc"), at, api.Gap{}, 1)
		holdOf(t, some(200), at, api.Gap{}, 1)
	}
}

func TestInsert(t *testing.T) { // P10.2, written out
	for _, x := range []struct {
		g    api.Gap
		l    []rune
		want api.Gap
		e    api.Errno
	}{
		{api.Gap{}, nil, api.Gap{}, 0}, {api.Gap{}, runes("x"), line("x", ""), 0}, {line("ab", "cd"), nil, line("ab", "cd"), 0}, {line("ab", "cd"), []rune{}, line("ab", "cd"), 0},
		{line("ab", "cd"), runes("x"), line("abx", "cd"), 0}, {line("ab", "cd"), runes("xyz"), line("abxyz", "cd"), 0}, {line("", "cd"), runes("xy"), line("xy", "cd"), 0}, {line("ab", ""), runes("xy"), line("abxy", ""), 0},
		{api.Gap{}, some(200), parted(some(200), 200), 0}, {api.Gap{}, some(201), api.Gap{}, 5}, {line("", "a"), some(199), api.Gap{A: some(199), B: runes("a")}, 0}, {line("", "a"), some(200), api.Gap{}, 5}, {line("a", ""), some(200), api.Gap{}, 5},
		{parted(some(200), 5), nil, parted(some(200), 5), 0}, {parted(some(200), 5), runes("x"), api.Gap{}, 5}, {parted(some(199), 0), runes("x"), api.Gap{A: runes("x"), B: some(199)}, 0}, {parted(some(199), 199), runes("xy"), api.Gap{}, 5},
		{api.Gap{}, []rune{-1}, api.Gap{}, 1}, {line("ab", "cd"), []rune{97, 97, 55296}, api.Gap{}, 1}, {line("ab", "cd"), []rune{57343, 97}, api.Gap{}, 1},
		{api.Gap{}, append(some(200), 1114112), api.Gap{}, 1}, {parted(some(200), 5), []rune{-1}, api.Gap{}, 1},
		{parted(some(201), 5), nil, api.Gap{}, 1}, {parted(some(201), 5), runes("x"), api.Gap{}, 1}, {api.Gap{A: []rune{-1}}, nil, api.Gap{}, 1}, {api.Gap{B: []rune{55296}}, runes("x"), api.Gap{}, 1}, {api.Gap{B: []rune{55296}}, some(300), api.Gap{}, 1},
	} {
		holdInsert(t, x.g, x.l, x.want, x.e)
	}
}

func TestCut(t *testing.T) { // P10.3, written out
	g := line("abc", "defg")
	for _, x := range []struct {
		g    api.Gap
		n    int
		want api.Gap
		l    string
	}{
		{g, 0, g, ""}, {g, 1, line("abc", "efg"), "d"}, {g, 2, line("abc", "fg"), "de"}, {g, 3, line("abc", "g"), "def"}, {g, 4, line("abc", ""), "defg"}, {g, 5, line("abc", ""), "defg"}, {g, 1000, line("abc", ""), "defg"},
		{g, -1, line("ab", "defg"), "c"}, {g, -2, line("a", "defg"), "bc"}, {g, -3, line("", "defg"), "abc"}, {g, -4, line("", "defg"), "abc"}, {g, -1000, line("", "defg"), "abc"},
		{api.Gap{}, 0, api.Gap{}, ""}, {api.Gap{}, 1, api.Gap{}, ""}, {api.Gap{}, -1, api.Gap{}, ""}, {line("ab", ""), 1, line("ab", ""), ""}, {line("", "ab"), -1, line("", "ab"), ""}, {line("ab", ""), -1, line("a", ""), "b"}, {line("", "ab"), 1, line("", "b"), "a"},
	} {
		holdCut(t, x.g, x.n, x.want, runes(x.l))
	}
}

func TestGo(t *testing.T) { // P10.4, written out
	g := line("ab", "cd")
	for _, x := range []struct {
		g    api.Gap
		at   int
		want api.Gap
	}{
		{g, -1000, line("", "abcd")}, {g, -1, line("", "abcd")}, {g, 0, line("", "abcd")}, {g, 1, line("a", "bcd")}, {g, 2, g}, {g, 3, line("abc", "d")}, {g, 4, line("abcd", "")}, {g, 5, line("abcd", "")}, {g, 1000, line("abcd", "")},
		{api.Gap{}, -1, api.Gap{}}, {api.Gap{}, 0, api.Gap{}}, {api.Gap{}, 1, api.Gap{}}, {line("a", ""), 0, line("", "a")}, {line("", "a"), 1, line("a", "")},
	} {
		holdGo(t, x.g, x.at, x.want)
	}
}

// rows tells all lists of up to n signs of l.
func rows(l []rune, n int) [][]rune {
	all := [][]rune{nil}
	from := 0
	for range n {
		to := len(all)
		for _, row := range all[from:to] {
			for _, r := range l {
				all = append(all, append(slices.Clone(row), r))
			}
		}
		from = to
	}
	return all
}

func TestAllSmallLines(t *testing.T) { // P10.1 to P10.5, R2
	ins := rows([]rune{97, 120}, 2)
	ns := []int{-9, -5, -4, -3, -2, -1, 0, 1, 2, 3, 4, 5, 9}
	for _, l := range rows([]rune{97, 98, 20013}, 4) {
		for at := range len(l) + 1 {
			holdAll(t, modelOf(l[:at], l[at:]), ins, ns)
		}
	}
}

func TestLinesOfAllLengths(t *testing.T) { // P10.1 to P10.5
	for n := 0; n <= mostSigns; n++ {
		l := some(n)
		// The point is at each place of the shortest and the longest lines; of the others at both ends, and some between, to save time.
		isEachPlace := n <= 8 || n >= mostSigns-1
		for at := range n + 1 {
			if !isEachPlace && at%23 != 0 && at != n {
				continue
			}
			room := mostSigns - n
			ins := [][]rune{nil, some(1), some(max(room-1, 0)), some(room), some(room + 1)}
			ns := []int{-at - 1, -at, -at + 1, at - 1, at, at + 1, n - at - 1, n - at, n - at + 1, n, n + 1}
			holdAll(t, modelOf(l[:at], l[at:]), ins, ns)
		}
	}
}

func TestFarOff(t *testing.T) { // P10.3, P10.4, R1, R3
	for _, g := range []api.Gap{{}, line("a", ""), line("", "a"), line("ab", "cd"), parted(some(200), 0), parted(some(200), 100), parted(some(200), 200)} {
		l := gap.Text(g)
		for _, n := range farOff {
			if n < 0 {
				holdCut(t, g, n, api.Gap{B: g.B}, g.A)
				holdGo(t, g, n, parted(l, 0))
			} else {
				holdCut(t, g, n, api.Gap{A: g.A}, g.B)
				holdGo(t, g, n, parted(l, len(l)))
			}
		}
	}
}

func TestEachSignAlone(t *testing.T) { // P10.1, P10.2: what is a sign, and what is none
	for _, r := range edges {
		l := []rune{r}
		holdAll(t, modelOf(l, nil), [][]rune{l}, []int{-1, 0, 1})
		holdAll(t, modelOf(nil, l), [][]rune{l}, []int{-1, 0, 1})
		holdOf(t, l, 1, api.Gap{A: l}, 0)
		holdInsert(t, line("a", "b"), l, api.Gap{A: []rune{97, r}, B: []rune{98}}, 0)
	}
	for _, r := range wrongOnes {
		holdOf(t, []rune{r}, 0, api.Gap{}, 1)
		holdOf(t, []rune{r}, 1, api.Gap{}, 1)
		holdInsert(t, api.Gap{}, []rune{r}, api.Gap{}, 1)
	}
}

// holdWrong holds all calls on g, which is not right.
func holdWrong(t *testing.T, g api.Gap) {
	t.Helper()
	holdIs(t, g, false)
	for _, l := range [][]rune{nil, runes("x"), {-1}, some(200), some(201)} {
		holdInsert(t, g, l, api.Gap{}, 1)
	}
	for _, n := range append([]int{-201, -2, -1, 0, 1, 2, 201}, farOff...) {
		holdCut(t, g, n, g, nil)
		holdGo(t, g, n, g)
	}
}

func TestWrongLines(t *testing.T) { // P10.1 to P10.4, R1, R4
	for _, r := range wrongOnes {
		for n := 1; n <= 4; n++ {
			for i := range n {
				l := some(n)
				l[i] = r
				holdOf(t, l, i, api.Gap{}, 1)
				holdInsert(t, line("ab", "cd"), l, api.Gap{}, 1)
				for at := 0; at <= n; at++ {
					holdWrong(t, parted(l, at))
				}
			}
		}
	}
	for _, n := range []int{201, 202, 256, 257, 400, 65536, 65536 + 1} {
		for _, at := range []int{0, 1, 100, 199, 200, 201, n - 1, n} {
			holdWrong(t, parted(some(n), at))
		}
	}
	for _, at := range []int{0, 7, 199, 200} {
		for _, i := range []int{0, 6, 7, 198, 199} {
			l := some(200)
			l[i] = 55296
			holdWrong(t, parted(l, at))
			holdOf(t, l, at, api.Gap{}, 1)
			holdInsert(t, api.Gap{}, l, api.Gap{}, 1)
		}
	}
}

// moment is a line of a story, and what it was when it was told.
type moment struct{ g, was api.Gap }

func cloned(g api.Gap) api.Gap { return api.Gap{A: slices.Clone(g.A), B: slices.Clone(g.B)} }

func TestLongStories(t *testing.T) { // P10.1 to P10.5, R2
	g := rand.New(rand.NewSource(10))
	for range 60 {
		m := modelOf(nil, nil)
		x := m.gap()
		var told []moment
		var out []rune
		for range 300 {
			n := g.Intn(21) - 10
			switch g.Intn(4) {
			case 0, 1:
				l := out
				if g.Intn(3) > 0 {
					l = some(g.Intn(30))
				}
				want, e := m.insert(l)
				got, gotE := gap.Insert(x, l)
				if gotE != e {
					t.Fatalf("P10.2: Insert(%v, %v): %d, want %d", x, l, gotE, e)
				}
				if e == api.OK {
					m, x = want, got
				}
			case 2:
				m, _ = m.cut(n)
				x, out = gap.Cut(x, n)
			case 3:
				at := g.Intn(len(m)+20) - 10
				m, x = m.goTo(at), gap.Go(x, at)
			}
			if !isSame(x, m.gap()) || !gap.Is(x) || !slices.Equal(gap.Text(x), m.text()) {
				t.Fatalf("P10.1 to P10.5: %v, want %v", x, m)
			}
			told = append(told, moment{x, cloned(x)}, moment{api.Gap{A: out}, cloned(api.Gap{A: out})})
		}
		for _, y := range told {
			if !isSame(y.g, y.was) {
				t.Fatalf("R2: %v was %v", y.g, y.was)
			}
		}
	}
}

func TestWhatCameOutStays(t *testing.T) { // R2: two lines that come of one have no memory to which both write
	g, _ := gap.Of(some(6), 3)
	x, _ := gap.Insert(g, runes("x"))
	y, _ := gap.Insert(g, runes("y"))
	xx, _ := gap.Insert(x, runes("v"))
	xy, _ := gap.Insert(x, runes("w"))
	cut, out := gap.Cut(x, -2)
	z, _ := gap.Insert(cut, runes("z"))
	here, _ := gap.Insert(gap.Go(x, 2), runes("h"))
	for i, w := range []struct {
		got  api.Gap
		want api.Gap
	}{
		{g, parted(some(6), 3)},
		{x, api.Gap{A: append(some(3), 'x'), B: some(6)[3:]}},
		{y, api.Gap{A: append(some(3), 'y'), B: some(6)[3:]}},
		{xx, api.Gap{A: append(some(3), 'x', 'v'), B: some(6)[3:]}},
		{xy, api.Gap{A: append(some(3), 'x', 'w'), B: some(6)[3:]}},
		{cut, api.Gap{A: some(2), B: some(6)[3:]}},
		{api.Gap{A: out}, api.Gap{A: append(some(3)[2:], 'x')}},
		{z, api.Gap{A: append(some(2), 'z'), B: some(6)[3:]}},
		{here, api.Gap{A: append(some(2), 'h'), B: append([]rune{1002, 'x'}, some(6)[3:]...)}},
	} {
		if !isSame(w.got, w.want) {
			t.Errorf("R2: %d: %v, want %v", i, w.got, w.want)
		}
	}
}

func TestTextIsNobodyElses(t *testing.T) { // Ways: copy; R2
	l := some(4)
	g, _ := gap.Of(l, 2)
	l[0], l[3] = 'x', 'y'
	if !isSame(g, parted(some(4), 2)) {
		t.Errorf("R2: Of: %v", g)
	}
	text := gap.Text(g)
	text[0], text[3] = 'x', 'y'
	if !isSame(g, parted(some(4), 2)) {
		t.Errorf("R2: Text: %v", g)
	}
	gone := gap.Go(g, 3)
	gone.A[0], gone.B[0] = 'x', 'y'
	if !isSame(g, parted(some(4), 2)) {
		t.Errorf("R2: Go: %v", g)
	}
}

func TestListsHaveNoRoomBehindThem(t *testing.T) { // Ways: three-index; R2
	long := some(9)
	g := api.Gap{A: long[:3], B: long[3:6]}
	of, _ := gap.Of(long[:6], 3)
	in, _ := gap.Insert(g, nil)
	fore, a := gap.Cut(g, 2)
	behind, b := gap.Cut(g, -2)
	for i, l := range [][]rune{of.A, of.B, in.A, fore.B, a, behind.A, b, gap.Go(g, 2).A, gap.Go(g, 2).B, gap.Text(g)} {
		if cap(l) != len(l) {
			t.Errorf("R2: list %d, %v, has room for %d more", i, l, cap(l)-len(l))
		}
	}
}
