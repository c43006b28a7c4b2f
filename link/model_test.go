package link_test

import (
	"math"
	"slices"

	"typebar/api"
)

// The limits, written out: room for 8 to 48 bytes, and up to 2 ticks to wait.
const (
	leastRoom    = 8
	greatestRoom = 48
)

// farOff are numbers that no room, no Sent and no Pad may be, whatever of them is looked at.
var farOff = []int{
	math.MinInt, math.MinInt + 1, -(1 << 32), -(1 << 32) + 1, -(1 << 32) + 8, -1 << 31, -(1 << 16), -256, -100, -48, -8, -3, -2, -1,
	49, 100, 128, 256, 256 + 1, 256 + 8, 1 << 16, 1<<16 + 8, 1<<31 - 1, 1 << 31, 1 << 32, 1<<32 + 1, 1<<32 + 2, 1<<32 + 8, 1<<32 + 48, math.MaxInt - 1, math.MaxInt,
}

// told is a right command, its bytes, and for how many ticks a link waits behind it.
type told struct {
	c    api.Command
	s    string
	pads int
}

// Of each Kind there is one, and of each number of bytes from 1 to 8.
var (
	letter = told{api.Command{Kind: 1, R: 97}, "a", 0}
	accent = told{api.Command{Kind: 1, R: 233}, "\xc3\xa9", 0}
	middle = told{api.Command{Kind: 1, R: 20013}, "\xe4\xb8\xad", 0}
	smile  = told{api.Command{Kind: 1, R: 128512}, "\xf0\x9f\x98\x80", 0}
	first  = told{api.Command{Kind: 2}, "\x1b[1;1H", 0}
	near   = told{api.Command{Kind: 2, A: 1, B: 9}, "\x1b[2;10H", 0}
	far    = told{api.Command{Kind: 2, A: 23, B: 79}, "\x1b[24;80H", 0}
	up     = told{api.Command{Kind: 3, A: 1}, "\x1b[A", 0}
	down   = told{api.Command{Kind: 4, A: 2}, "\x1b[2B", 0}
	right  = told{api.Command{Kind: 5, A: 10}, "\x1b[10C", 0}
	left   = told{api.Command{Kind: 6, A: 80}, "\x1b[80D", 0}
	row    = told{api.Command{Kind: 7}, "\x1b[K", 1}
	all    = told{api.Command{Kind: 8}, "\x1b[J", 2}
	home   = told{api.Command{Kind: 9}, "\x0d", 0}
	feed   = told{api.Command{Kind: 10}, "\x0a", 0}
	back   = told{api.Command{Kind: 11}, "\x08", 0}
	bell   = told{api.Command{Kind: 12}, "\x07", 0}
)

var handful = []told{letter, accent, middle, smile, first, near, far, up, down, right, left, row, all, home, feed, back, bell}

// wrongOnes are commands that are not right, of each Kind, and of none.
var wrongOnes = []api.Command{
	{}, {Kind: -1}, {Kind: 13}, {Kind: math.MinInt}, {Kind: math.MaxInt}, {Kind: 1<<32 + 7}, {R: 97}, {A: 1},
	{Kind: 1}, {Kind: 1, R: 31}, {Kind: 1, R: 127}, {Kind: 1, R: 159}, {Kind: 1, R: 55296}, {Kind: 1, R: 1114112}, {Kind: 1, R: -1}, {Kind: 1, A: 1, R: 97}, {Kind: 1, B: 1, R: 97},
	{Kind: 2, A: -1}, {Kind: 2, A: 24}, {Kind: 2, B: -1}, {Kind: 2, B: 80}, {Kind: 2, R: 97},
	{Kind: 3}, {Kind: 3, A: 81}, {Kind: 3, A: 1, B: 1}, {Kind: 3, A: 1, R: 97}, {Kind: 4}, {Kind: 4, A: -1}, {Kind: 4, A: 81}, {Kind: 5}, {Kind: 5, A: 81}, {Kind: 6}, {Kind: 6, A: 81}, {Kind: 6, A: 1, B: -1},
	{Kind: 7, A: 1}, {Kind: 7, B: 1}, {Kind: 7, R: 97}, {Kind: 8, A: 1}, {Kind: 8, R: 32}, {Kind: 9, B: 1}, {Kind: 9, R: 13}, {Kind: 10, A: -1}, {Kind: 10, R: 10}, {Kind: 11, A: 1}, {Kind: 11, B: 8}, {Kind: 12, A: 1}, {Kind: 12, R: 7},
}

// mark is a byte that is to be sent: which one it is of its command.
type mark struct {
	of told
	i  int
}

// model is a link made in another way: each byte that is left by itself, where a link has commands, and how much of the first one is gone.
type model struct {
	room, pad int
	off       bool
	l         []mark
}

// modelOf tells the model of all that is told, without the first `sent` bytes.
func modelOf(room, sent int, l ...told) model {
	m := model{room: room}
	for _, x := range l {
		m.l = append(m.l, marks(x)...)
	}
	m.l = m.l[sent:]
	return m
}

func marks(x told) []mark {
	var l []mark
	for i := range len(x.s) {
		l = append(l, mark{x, i})
	}
	return l
}

// link tells the link that m is the model of.
func (m model) link() api.Link {
	k := api.Link{Room: m.room, Pad: m.pad, Off: m.off}
	for n, x := range m.l {
		if n == 0 {
			k.Sent = x.i
		}
		if n == 0 || x.i == 0 {
			k.L = append(k.L, x.of.c)
		}
	}
	return k
}

func (m model) rest() string {
	s := ""
	for _, x := range m.l {
		s += x.of.s[x.i : x.i+1]
	}
	return s
}

func (m model) offer(x told) (model, api.Errno) {
	if len(m.l)+len(x.s) > m.room {
		return model{}, 5
	}
	m.l = slices.Concat(m.l, marks(x))
	return m, 0
}

func (m model) send(grant int) (string, model) {
	s := ""
	for len(m.l) > 0 && len(s) < grant && m.pad == 0 && !m.off {
		x := m.l[0]
		s += x.of.s[x.i : x.i+1]
		if x.i+1 == len(x.of.s) {
			m.pad = x.of.pads
		}
		m.l = m.l[1:]
	}
	return s, m
}

func (m model) tick() model {
	m.pad = []int{0, 0, 1}[m.pad]
	return m
}

func (m model) hold(off bool) model {
	m.off = off
	return m
}

func (m model) drop() (model, []api.Command) {
	var l []api.Command
	n := len(m.l)
	for i, x := range slices.Backward(m.l) {
		if x.i == 0 {
			l = append([]api.Command{x.of.c}, l...)
			n = i
		}
	}
	m.l = m.l[:n]
	return m, l
}
