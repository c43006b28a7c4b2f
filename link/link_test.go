package link_test

import (
	"math/rand"
	"slices"
	"testing"

	"typebar/api"
	"typebar/link"
	"typebar/scan"
	"typebar/vt"
)

// isSame tells whether a and b are one link; a list that is empty may be nil.
func isSame(a, b api.Link) bool {
	return a.Room == b.Room && a.Sent == b.Sent && a.Pad == b.Pad && a.Off == b.Off && slices.Equal(a.L, b.L)
}

// lent tells k with its list as a part of a longer one, which somebody else may have, and whether that one is yet as it was.
func lent(k api.Link) (api.Link, func() bool) {
	others := []api.Command{{Kind: 1, R: 120}, {Kind: 1, R: 121}}
	long := slices.Concat(others, k.L, others, others)
	held := slices.Clone(long)
	k.L = long[len(others) : len(others)+len(k.L)]
	return k, func() bool { return slices.Equal(long, held) }
}

func holdSame(t *testing.T, isSame func() bool) {
	t.Helper()
	if !isSame() {
		t.Fatal("R2: what was handed in was changed")
	}
}

func holdRest(t *testing.T, k api.Link, is bool, want string) {
	t.Helper()
	k, same := lent(k)
	if got := link.Is(k); got != is {
		t.Fatalf("P9.1: Is(%+v) = %v", k, got)
	}
	if s := link.Rest(k); s != want {
		t.Fatalf("P9.1: Rest(%+v) = %q, want %q", k, s, want)
	}
	holdSame(t, same)
}

func holdOffer(t *testing.T, k api.Link, c api.Command, want api.Link, wantE api.Errno) {
	t.Helper()
	k, same := lent(k)
	if got, e := link.Offer(k, c); !isSame(got, want) || e != wantE {
		t.Fatalf("P9.2: Offer(%+v, %+v) = %+v, %d, want %+v, %d", k, c, got, e, want, wantE)
	}
	holdSame(t, same)
}

func holdSend(t *testing.T, k api.Link, grant int, wantS string, want api.Link) {
	t.Helper()
	k, same := lent(k)
	if s, got := link.Send(k, grant); s != wantS || !isSame(got, want) {
		t.Fatalf("P9.3: Send(%+v, %d) = %q, %+v, want %q, %+v", k, grant, s, got, wantS, want)
	}
	holdSame(t, same)
}

func holdTick(t *testing.T, k, want api.Link) {
	t.Helper()
	k, same := lent(k)
	if got := link.Tick(k); !isSame(got, want) {
		t.Fatalf("P9.4: Tick(%+v) = %+v, want %+v", k, got, want)
	}
	holdSame(t, same)
}

func holdHold(t *testing.T, k api.Link, off bool, want api.Link) {
	t.Helper()
	k, same := lent(k)
	if got := link.Hold(k, off); !isSame(got, want) {
		t.Fatalf("P9.4: Hold(%+v, %v) = %+v, want %+v", k, off, got, want)
	}
	holdSame(t, same)
}

func holdDrop(t *testing.T, k, want api.Link, wantL []api.Command) {
	t.Helper()
	k, same := lent(k)
	if got, l := link.Drop(k); !isSame(got, want) || !slices.Equal(l, wantL) {
		t.Fatalf("P9.4: Drop(%+v) = %+v, %+v, want %+v, %+v", k, got, l, want, wantL)
	}
	holdSame(t, same)
}

// holdAll holds all calls, at each grant, against the model m.
func holdAll(t *testing.T, m model, grants []int) {
	t.Helper()
	k := m.link()
	holdRest(t, k, true, m.rest())
	for _, x := range handful {
		want, e := m.offer(x)
		holdOffer(t, k, x.c, want.link(), e)
	}
	for _, grant := range grants {
		s, want := m.send(grant)
		holdSend(t, k, grant, s, want.link())
	}
	holdTick(t, k, m.tick().link())
	holdHold(t, k, true, m.hold(true).link())
	holdHold(t, k, false, m.hold(false).link())
	want, l := m.drop()
	holdDrop(t, k, want.link(), l)
}

func commands(l ...told) []api.Command {
	var out []api.Command
	for _, x := range l {
		out = append(out, x.c)
	}
	return out
}

func TestNew(t *testing.T) { // P9.1, R1, R3
	for room := -300; room <= 300; room++ {
		want, wantE := api.Link{Room: room}, api.OK
		if room < leastRoom || room > greatestRoom {
			want, wantE = api.Link{}, 4
		}
		if k, e := link.New(room); !isSame(k, want) || e != wantE {
			t.Errorf("P9.1: New(%d) = %+v, %d, want %+v, %d", room, k, e, want, wantE)
		}
		if wantE == api.OK {
			holdAll(t, model{room: room}, []int{-1, 0, 1, 100})
		}
	}
	for _, room := range farOff {
		if k, e := link.New(room); !isSame(k, api.Link{}) || e != 4 {
			t.Errorf("P9.1: New(%d) = %+v, %d, want 4", room, k, e)
		}
	}
}

func TestIsAndRest(t *testing.T) { // P9.1, written out
	long := slices.Repeat(commands(letter), 48)
	for _, x := range []struct {
		k    api.Link
		is   bool
		rest string
	}{
		{api.Link{}, false, ""}, {api.Link{Room: 7}, false, ""}, {api.Link{Room: 8}, true, ""}, {api.Link{Room: 48}, true, ""}, {api.Link{Room: 49}, false, ""},
		{api.Link{Room: 8, Pad: -1}, false, ""}, {api.Link{Room: 8, Pad: 1}, true, ""}, {api.Link{Room: 8, Pad: 2, Off: true}, true, ""}, {api.Link{Room: 8, Pad: 3}, false, ""},
		{api.Link{Room: 8, Sent: 1}, false, ""}, {api.Link{Room: 8, Sent: -1}, false, ""}, {api.Link{Room: 8, L: commands(letter), Sent: 1}, false, ""},
		{api.Link{Room: 8, L: commands(letter), Sent: -1}, false, ""}, {api.Link{Room: 8, L: commands(letter)}, true, "a"},
		{api.Link{Room: 8, L: commands(far)}, true, "\x1b[24;80H"}, {api.Link{Room: 8, L: commands(far), Sent: 7}, true, "H"}, {api.Link{Room: 8, L: commands(far), Sent: 8}, false, ""},
		{api.Link{Room: 8, L: commands(far, letter)}, false, ""}, {api.Link{Room: 8, L: commands(far, letter), Sent: 1}, true, "[24;80Ha"}, {api.Link{Room: 9, L: commands(far, letter)}, true, "\x1b[24;80Ha"},
		{api.Link{Room: 8, L: commands(far, near), Sent: 7}, true, "H\x1b[2;10H"}, {api.Link{Room: 8, L: commands(far, far), Sent: 7}, false, ""}, {api.Link{Room: 9, L: commands(far, far), Sent: 7}, true, "H\x1b[24;80H"},
		{api.Link{Room: 12, L: commands(middle, row, home, all), Sent: 2, Pad: 1, Off: true}, true, "\xad\x1b[K\x0d\x1b[J"},
		{api.Link{Room: 8, L: commands(middle, letter), Sent: 3}, false, ""}, {api.Link{Room: 8, L: commands(letter, middle), Sent: 1}, false, ""},
		{api.Link{Room: 48, L: long}, true, "aaaaaaaaaaaaaaaaaaaaaaaaaaaaaaaaaaaaaaaaaaaaaaaa"}, {api.Link{Room: 47, L: long}, false, ""}, {api.Link{Room: 48, L: append(long, bell.c)}, false, ""},
		{api.Link{Room: 8, L: []api.Command{{}}}, false, ""}, {api.Link{Room: 8, L: []api.Command{letter.c, {Kind: 7, A: 1}}}, false, ""}, {api.Link{Room: 8, L: []api.Command{{Kind: 3}, letter.c}}, false, ""},
	} {
		holdRest(t, x.k, x.is, x.rest)
	}
}

func TestOffer(t *testing.T) { // P9.2, written out
	one := api.Link{Room: 8, L: commands(letter)}
	holdOffer(t, one, near.c, api.Link{Room: 8, L: commands(letter, near)}, 0)
	holdOffer(t, one, far.c, api.Link{}, 5)
	holdOffer(t, api.Link{Room: 8}, far.c, api.Link{Room: 8, L: commands(far)}, 0)
	begun := api.Link{Room: 8, L: commands(far), Sent: 7, Pad: 2, Off: true}
	holdOffer(t, begun, near.c, api.Link{Room: 8, L: commands(far, near), Sent: 7, Pad: 2, Off: true}, 0)
	holdOffer(t, begun, far.c, api.Link{}, 5)
	full := api.Link{Room: 8, L: commands(far)}
	holdOffer(t, full, bell.c, api.Link{}, 5)
	holdOffer(t, full, api.Command{Kind: 12, A: 1}, api.Link{}, 1)
	holdOffer(t, one, api.Command{}, api.Link{}, 1)
	over := api.Link{Room: 8, L: commands(far, letter)}
	holdOffer(t, over, bell.c, api.Link{}, 1)
	holdOffer(t, over, api.Command{}, api.Link{}, 1)
	many := slices.Repeat(commands(letter, all), 12)
	holdOffer(t, api.Link{Room: 48, L: many[:23]}, all.c, api.Link{Room: 48, L: many}, 0)
	holdOffer(t, api.Link{Room: 48, L: many[:23]}, smile.c, api.Link{}, 5)
	holdOffer(t, api.Link{Room: 48, L: many}, letter.c, api.Link{}, 5)
}

func TestSend(t *testing.T) { // P9.3, written out
	k := api.Link{Room: 16, L: commands(middle, row, letter, all, bell)}
	holdSend(t, k, -1, "", k)
	holdSend(t, k, 0, "", k)
	holdSend(t, k, 1, "\xe4", api.Link{Room: 16, L: k.L, Sent: 1})
	holdSend(t, k, 2, "\xe4\xb8", api.Link{Room: 16, L: k.L, Sent: 2})
	holdSend(t, k, 3, "\xe4\xb8\xad", api.Link{Room: 16, L: k.L[1:]})
	holdSend(t, k, 5, "\xe4\xb8\xad\x1b[", api.Link{Room: 16, L: k.L[1:], Sent: 2})
	waits := api.Link{Room: 16, L: k.L[2:], Pad: 1}
	holdSend(t, k, 6, "\xe4\xb8\xad\x1b[K", waits)
	holdSend(t, k, 7, "\xe4\xb8\xad\x1b[K", waits)
	holdSend(t, k, 1000, "\xe4\xb8\xad\x1b[K", waits)
	holdSend(t, waits, 1000, "", waits)
	free := api.Link{Room: 16, L: k.L[2:]}
	holdTick(t, waits, free)
	holdSend(t, free, 1, "a", api.Link{Room: 16, L: k.L[3:]})
	holdSend(t, free, 3, "a\x1b[", api.Link{Room: 16, L: k.L[3:], Sent: 2})
	holdSend(t, free, 5, "a\x1b[J", api.Link{Room: 16, L: commands(bell), Pad: 2})
	last := api.Link{Room: 16, L: commands(bell)}
	holdSend(t, last, 1, "\x07", api.Link{Room: 16})
	holdSend(t, last, 9, "\x07", api.Link{Room: 16})
	holdSend(t, api.Link{Room: 16}, 9, "", api.Link{Room: 16})
	for _, x := range []told{row, all} {
		holdSend(t, api.Link{Room: 8, L: commands(x), Sent: 2}, 9, x.s[2:], api.Link{Room: 8, Pad: x.pads})
	}
	held := api.Link{Room: 16, L: k.L, Off: true}
	holdSend(t, held, 1000, "", held)
	holdHold(t, held, false, k)
	begun := api.Link{Room: 16, L: k.L, Sent: 1, Pad: 2, Off: true}
	holdSend(t, begun, 1000, "", begun)
}

func TestTickAndHold(t *testing.T) { // P9.4, written out
	for _, off := range []bool{false, true} {
		k := func(pad int, off bool) api.Link {
			return api.Link{Room: 9, L: commands(near, letter), Sent: 3, Pad: pad, Off: off}
		}
		holdTick(t, k(0, off), k(0, off))
		holdTick(t, k(1, off), k(0, off))
		holdTick(t, k(2, off), k(1, off))
		for pad := range 3 {
			holdHold(t, k(pad, off), true, k(pad, true))
			holdHold(t, k(pad, off), false, k(pad, false))
		}
	}
}

func TestDrop(t *testing.T) { // P9.4, written out
	for sent := range 3 {
		k := api.Link{Room: 16, L: commands(row, letter, all), Sent: sent, Pad: 2, Off: true}
		if sent == 0 {
			holdDrop(t, k, api.Link{Room: 16, Pad: 2, Off: true}, k.L)
		} else {
			holdDrop(t, k, api.Link{Room: 16, L: commands(row), Sent: sent, Pad: 2, Off: true}, commands(letter, all))
		}
	}
	begun := api.Link{Room: 8, L: commands(far), Sent: 7}
	holdDrop(t, begun, begun, nil)
	holdDrop(t, api.Link{Room: 8, L: commands(far)}, api.Link{Room: 8}, commands(far))
	holdDrop(t, api.Link{Room: 8, Pad: 1}, api.Link{Room: 8, Pad: 1}, nil)
}

// lists tells all lists of l's commands of which no more than room bytes are left, when one byte at least of the first one is.
func lists(l []told, room int) [][]told {
	out := [][]told{nil}
	for i := 0; i < len(out); i++ {
		n := 0
		for j, x := range out[i] {
			n += len(x.s)
			if j == 0 {
				n = 1
			}
		}
		for _, x := range l {
			if len(out[i]) == 0 || n+len(x.s) <= room {
				out = append(out, append(slices.Clone(out[i]), x))
			}
		}
	}
	return out
}

func TestAllSmallLinks(t *testing.T) { // P9.1 to P9.5, R2, R4
	grants := []int{-2, -1, 0, 1, 2, 3, 4, 5, 6, 7, 8, 9, 10}
	n := 0
	for _, l := range lists([]told{letter, accent, row, all, far}, leastRoom) {
		for sent := range max(1, len(modelOf(leastRoom, 0, l[:min(1, len(l))]...).l)) {
			m := modelOf(leastRoom, sent, l...)
			if len(m.l) > leastRoom {
				holdRest(t, m.link(), false, "")
				continue
			}
			for m.pad = range 3 {
				holdAll(t, m.hold(false), grants)
				holdAll(t, m.hold(true), grants)
			}
			n++
		}
	}
	if n < 500 {
		t.Fatalf("only %d links were tried", n)
	}
}

// someLink makes a link of some room with as much in it as there is room for, or less, of which `sent` bytes of the first command are gone.
func someLink(g *rand.Rand, room, sent int, begin told) model {
	m := modelOf(room, sent, begin)
	for range g.Intn(60) {
		if more, e := m.offer(handful[g.Intn(len(handful))]); e == api.OK {
			m = more
		}
	}
	return m
}

func TestLinksOfAllRooms(t *testing.T) { // P9.1 to P9.5
	g := rand.New(rand.NewSource(9))
	for room := leastRoom; room <= greatestRoom; room++ {
		for _, begin := range handful {
			for sent := range begin.s {
				m := someLink(g, room, sent, begin)
				m.pad, m.off = max(0, g.Intn(7)-4), g.Intn(5) == 0
				n := len(m.l)
				holdAll(t, m, []int{-5, 0, 1, n / 2, n - 1, n, n + 1, 1 << 40, farOff[g.Intn(len(farOff))]})
			}
		}
	}
}

func TestGrantsInTwoParts(t *testing.T) { // P9.5, P9.3
	g := rand.New(rand.NewSource(10))
	for round := range 400 {
		begin := handful[g.Intn(len(handful))]
		k := someLink(g, leastRoom+round%41, g.Intn(len(begin.s)), begin).link()
		n := len(link.Rest(k))
		for grant := range n + 3 {
			whole, behind := link.Send(k, grant)
			if len(whole) > grant || whole+link.Rest(behind) != link.Rest(k) {
				t.Fatalf("P9.5: Send(%+v, %d) = %q, and %q is left", k, grant, whole, link.Rest(behind))
			}
			for cut := range grant + 1 {
				one, between := link.Send(k, cut)
				two, end := link.Send(between, grant-cut)
				if one+two != whole || !isSame(end, behind) {
					t.Fatalf("P9.5: %+v, granted %d and %d: %q and %q, %+v; granted %d: %q, %+v", k, cut, grant-cut, one, two, end, grant, whole, behind)
				}
			}
		}
	}
}

func TestOfferFillsToTheLastByte(t *testing.T) { // P9.2
	for room := leastRoom; room <= greatestRoom; room++ {
		for n := range room + 1 {
			m := modelOf(room, 0, slices.Repeat([]told{letter}, n)...)
			holdRest(t, m.link(), true, m.rest())
			for _, x := range handful {
				want, e := m.offer(x)
				if (e == api.OK) != (n+len(x.s) <= room) {
					t.Fatalf("the model is wrong at %d, %d, %q", room, n, x.s)
				}
				holdOffer(t, m.link(), x.c, want.link(), e)
			}
			for _, c := range wrongOnes {
				holdOffer(t, m.link(), c, api.Link{}, 1)
			}
		}
		over := modelOf(room, 0, slices.Repeat([]told{letter}, room+1)...)
		holdWrong(t, over.link())
	}
}

// holdWrong holds all calls of a link that is not right.
func holdWrong(t *testing.T, k api.Link) {
	t.Helper()
	holdRest(t, k, false, "")
	for _, c := range []api.Command{letter.c, far.c, {}, {Kind: 7, A: 1}} {
		holdOffer(t, k, c, api.Link{}, 1)
	}
	for _, grant := range []int{-1, 0, 1, 2, 8, 100} {
		holdSend(t, k, grant, "", k)
	}
	holdTick(t, k, k)
	holdHold(t, k, true, k)
	holdHold(t, k, false, k)
	holdDrop(t, k, k, nil)
}

func TestWrongLinks(t *testing.T) { // P9.1 to P9.4, R1, R3, R4
	for _, off := range []bool{false, true} {
		for pad := range 3 {
			for _, l := range [][]told{nil, {letter}, {row, letter}, {middle, all}, {far}} {
				k := modelOf(leastRoom, 0, l...).hold(off).link()
				k.Pad = pad
				holdRest(t, k, true, modelOf(leastRoom, 0, l...).rest())
				for _, n := range append([]int{0, 1, 6, 7}, farOff...) {
					x := k
					x.Room = n
					holdWrong(t, x)
				}
				for _, n := range append([]int{3, 4, 7, 8}, farOff...) {
					x := k
					x.Pad = n
					holdWrong(t, x)
				}
				first := 1
				if len(l) > 0 {
					first = len(l[0].s)
				}
				for _, n := range append([]int{first, first + 1, 9, 10}, farOff...) {
					x := k
					x.Sent = n
					holdWrong(t, x)
				}
				for i := range len(k.L) + 1 {
					for _, c := range wrongOnes {
						x := k
						x.L = slices.Insert(slices.Clone(k.L), i, c)
						holdWrong(t, x)
					}
				}
			}
		}
	}
	for _, c := range wrongOnes { // begun, and wrong
		holdWrong(t, api.Link{Room: 48, L: []api.Command{c, letter.c}, Sent: 1})
		holdWrong(t, api.Link{Room: 48, L: []api.Command{far.c, c}, Sent: 7})
	}
	holdWrong(t, api.Link{Room: 48, L: slices.Repeat(commands(letter), 100000)})
	holdWrong(t, api.Link{Room: 48, L: slices.Repeat(commands(far), 100000), Sent: 7})
}

func TestGrantsFarOff(t *testing.T) { // P9.3, R3
	k := modelOf(greatestRoom, 1, far, letter, all, bell)
	for _, grant := range farOff {
		s, want := "", k
		if grant > 0 {
			s, want = "[24;80Ha\x1b[J", modelOf(greatestRoom, 0, bell)
			want.pad = 2
		}
		holdSend(t, k.link(), grant, s, want.link())
	}
}

// holdAlone holds a right command, alone in a link, at each Sent, against chapter 5.
func holdAlone(t *testing.T, c api.Command) {
	t.Helper()
	s, e := vt.Put(c)
	if e != api.OK {
		t.Fatalf("%+v is not right", c)
	}
	k, e := link.Offer(api.Link{Room: leastRoom}, c)
	if want := (api.Link{Room: leastRoom, L: []api.Command{c}}); e != api.OK || !isSame(k, want) {
		t.Fatalf("P9.2: Offer of %+v = %+v, %d", c, k, e)
	}
	for i := range len(s) {
		if !link.Is(k) || link.Rest(k) != s[i:] {
			t.Fatalf("P9.1: Rest(%+v) = %q, want %q", k, link.Rest(k), s[i:])
		}
		want := api.Link{Room: leastRoom, L: k.L, Sent: i + 1}
		if i+1 == len(s) {
			want = api.Link{Room: leastRoom, Pad: vt.Pads(c)}
		}
		b, next := link.Send(k, 1)
		if b != s[i:i+1] || !isSame(next, want) {
			t.Fatalf("P9.3: Send(%+v, 1) = %q, %+v, want %+v", k, b, next, want)
		}
		k = next
	}
}

func TestEachRightCommandAlone(t *testing.T) { // P9.1, P9.2, P9.3
	for kind := 7; kind <= 12; kind++ {
		holdAlone(t, api.Command{Kind: kind})
	}
	for a := 1; a <= 80; a++ {
		for kind := 3; kind <= 6; kind++ {
			holdAlone(t, api.Command{Kind: kind, A: a})
		}
		for y := range 24 {
			holdAlone(t, api.Command{Kind: 2, A: y, B: a - 1})
		}
	}
	for r := rune(32); r <= 1114111; r += 1 + r/500 {
		if c := (api.Command{Kind: 1, R: r}); vt.Is(c) {
			holdAlone(t, c)
		}
	}
}

// story is what a link is told, one thing behind the other, beside its model.
type story struct {
	t *testing.T
	k api.Link
	m model
	// out is what was sent, and told what it has to be: all that was taken, and not dropped.
	out  string
	told []told
}

func (x *story) offer(c told) {
	x.t.Helper()
	want, wantE := x.m.offer(c)
	got, e := link.Offer(x.k, c.c)
	if e != wantE || !isSame(got, want.link()) {
		x.t.Fatalf("P9.2: Offer(%+v, %+v) = %+v, %d, want %+v, %d", x.k, c.c, got, e, want.link(), wantE)
	}
	if e == api.OK {
		x.k, x.m, x.told = got, want, append(x.told, c)
	}
}

func (x *story) send(grant int) {
	x.t.Helper()
	mayNot := x.k.Off || x.k.Pad > 0
	wantS, want := x.m.send(grant)
	s, got := link.Send(x.k, grant)
	if s != wantS || !isSame(got, want.link()) {
		x.t.Fatalf("P9.3: Send(%+v, %d) = %q, %+v, want %q, %+v", x.k, grant, s, got, wantS, want.link())
	}
	if len(s) > max(grant, 0) || mayNot && s != "" {
		x.t.Fatalf("P9.5: Send(%+v, %d) = %q", x.k, grant, s)
	}
	x.k, x.m, x.out = got, want, x.out+s
}

func (x *story) drop() {
	x.t.Helper()
	want, wantL := x.m.drop()
	got, l := link.Drop(x.k)
	if !isSame(got, want.link()) || !slices.Equal(l, wantL) {
		x.t.Fatalf("P9.4: Drop(%+v) = %+v, %+v, want %+v, %+v", x.k, got, l, want.link(), wantL)
	}
	dropped := modelOf(0, 0, x.told[len(x.told)-len(l):]...)
	if link.Rest(got)+dropped.rest() != link.Rest(x.k) {
		x.t.Fatalf("P9.5: Drop(%+v) = %+v, %+v: that is not the rest of before", x.k, got, l)
	}
	x.k, x.m, x.told = got, want, x.told[:len(x.told)-len(l)]
}

func (x *story) tick() { x.k, x.m = link.Tick(x.k), x.m.tick() }

func (x *story) hold(off bool) { x.k, x.m = link.Hold(x.k, off), x.m.hold(off) }

// check holds the link against its model, and what was sent, and is left, against what was taken.
func (x *story) check() {
	x.t.Helper()
	if !isSame(x.k, x.m.link()) || !link.Is(x.k) {
		x.t.Fatalf("P9.5: %+v, want %+v", x.k, x.m.link())
	}
	if want := modelOf(0, 0, x.told...).rest(); x.out+link.Rest(x.k) != want {
		x.t.Fatalf("P9.5: %q was sent, and %q is left, want %q", x.out, link.Rest(x.k), want)
	}
}

// close sends all that is left, and holds what was sent against whole commands.
func (x *story) close() {
	x.t.Helper()
	l, left, e := scan.All(x.out)
	if e != api.OK || len(left) != x.k.Sent {
		x.t.Fatalf("T3: %q was sent, behind %+v is left %q, %d", x.out, l, left, e)
	}
	x.hold(false)
	for range 2 + 2*len(x.k.L) {
		x.send(greatestRoom)
		x.tick()
	}
	x.check()
	l, left, e = scan.All(x.out)
	if link.Rest(x.k) != "" || !slices.Equal(l, commands(x.told...)) || left != "" || e != api.OK {
		x.t.Fatalf("P9.5: %+v was sent, and %q, %d, want %+v", l, left, e, x.told)
	}
}

func TestLongStories(t *testing.T) { // P9.1 to P9.5, R2, T3
	g := rand.New(rand.NewSource(11))
	for round := range 600 {
		room := leastRoom + round%41
		k, e := link.New(room)
		if e != api.OK {
			t.Fatalf("P9.1: New(%d): %d", room, e)
		}
		x := &story{t: t, k: k, m: model{room: room}}
		kinds := 5 + round%9
		for range 120 {
			switch n := g.Intn(kinds); n {
			case 0, 1:
				x.offer(handful[g.Intn(len(handful))])
			case 2:
				x.send(g.Intn(12) - 1)
			case 3, 4:
				x.tick()
			case 5:
				x.drop()
			case 6, 7:
				x.hold(n == 6)
			case 8:
				x.send(g.Intn(2))
			case 9:
				x.send(greatestRoom)
			default:
				x.offer(handful[g.Intn(3)*5+1])
			}
			x.check()
		}
		x.close()
	}
}

func TestWhatCameOutStays(t *testing.T) { // R2
	begin := api.Link{Room: greatestRoom, L: commands(row, letter, all, bell), Sent: 1}
	one, _ := link.Offer(begin, home.c)
	for _, x := range handful { // each from the same link, and none writes over another one's
		two, _ := link.Offer(begin, x.c)
		deeper, _ := link.Offer(two, feed.c)
		_, sent := link.Send(one, 2)
		link.Offer(sent, x.c)
		kept, dropped := link.Drop(one)
		link.Offer(kept, x.c)
		for _, y := range []struct{ got, want []api.Command }{
			{begin.L, commands(row, letter, all, bell)}, {one.L, commands(row, letter, all, bell, home)},
			{two.L, commands(row, letter, all, bell, x)}, {deeper.L, commands(row, letter, all, bell, x, feed)},
			{sent.L, commands(letter, all, bell, home)}, {kept.L, commands(row)}, {dropped, commands(letter, all, bell, home)},
		} {
			if !slices.Equal(y.got, y.want) {
				t.Fatalf("R2: %+v, want %+v", y.got, y.want)
			}
		}
	}
}

func TestListsHaveNoRoomBehindThem(t *testing.T) { // Ways: three-index; R2
	k, same := lent(api.Link{Room: greatestRoom, L: commands(row, letter, all, bell)})
	more, _ := link.Offer(k, home.c)
	_, behind := link.Send(k, 3)
	_, begun := link.Send(k, 4)
	none, whole := link.Drop(k)
	k.Sent = 2
	first, others := link.Drop(k)
	for i, l := range [][]api.Command{more.L, behind.L, begun.L, none.L, whole, first.L, others} {
		if len(l) < len(more.L) && cap(l) > len(l) {
			t.Errorf("R2: list number %d has room behind it, which others have, too", i)
		}
		if _ = append(l, smile.c); !same() {
			t.Fatalf("R2: what was put behind list number %d was written to what was handed in", i)
		}
	}
	if want := commands(row, letter, all, bell, home); !slices.Equal(more.L, want) {
		t.Errorf("R2: %+v, want %+v", more.L, want)
	}
}
