package fifo_test

import (
	"math"

	"typebar/api"
)

// The limits, written out: room for 1 to 64 bytes, ticks of 0 to 1073741824.
const (
	greatestRoom = 64
	greatestTick = 1073741824
)

// farOff are numbers that are no room; no tick are those of them that are below 0, or above 1073741824.
var farOff = []int{
	math.MinInt, math.MinInt + 1, -(1 << 32), -(1<<32 - 1), -1 << 31, -1073741824, -65, -64, -1, 0, 65, 128, 256, 257, 1 << 16, 1<<30 - 1, 1 << 30, 1<<30 + 1, 1 << 31, 1<<32 + 1, 1<<32 + 64, math.MaxInt - 1, math.MaxInt,
}

// model has all that ever came to a fifo, and forgets nothing: what waits is what did not leave yet.
type model struct {
	room int
	// kept are the bytes that did not come in vain; the first `left` of them were taken.
	kept []api.Stamped
	left int
	gone []api.Stamped
}

func (m *model) waiting() int { return len(m.kept) - m.left }

// tick tells the latest tick of all bytes that came, or -1.
func (m *model) tick() int {
	t := -1
	for _, l := range [][]api.Stamped{m.kept, m.gone} {
		for _, s := range l {
			t = max(t, s.At)
		}
	}
	return t
}

func (m *model) push(b byte, at int) api.Errno {
	switch {
	case at < 0 || at > greatestTick || at < m.tick():
		return 1
	case m.waiting() >= m.room:
		m.gone = append(m.gone, api.Stamped{B: b, At: at})
		return 5
	}
	m.kept = append(m.kept, api.Stamped{B: b, At: at})
	return 0
}

func (m *model) pop() (api.Stamped, api.Errno) {
	if m.waiting() == 0 {
		return api.Stamped{}, 6
	}
	m.left++
	return m.kept[m.left-1], 0
}
