package gap_test

import (
	"math"
	"slices"

	"typebar/api"
)

// mostSigns is how many signs a line has at most, written out.
const mostSigns = 200

// farOff are numbers that are beyond both ends of all lines, but whose lower bits, if these alone were looked at, are not.
var farOff = []int{
	math.MinInt, math.MinInt + 1, math.MinInt + 3, -1 << 62, -(1 << 32) - 1, -(1 << 32), -(1 << 32) + 2, -1 << 31, -(1 << 16) + 1, -256, -255, -201,
	201, 255, 256, 257, 1 << 16, 1<<16 + 2, 1<<31 - 1, 1 << 31, 1<<32 - 1, 1 << 32, 1<<32 + 1, 1<<32 + 2, 1 << 62, math.MaxInt - 2, math.MaxInt - 1, math.MaxInt,
}

// edges are signs, those among them that have a number beside them that is none; wrongOnes are numbers that are no signs.
var (
	edges     = []rune{0, 1, 9, 10, 27, 31, 32, 65, 127, 128, 255, 256, 20013, 55295, 57344, 65533, 65535, 65536, 128512, 1114110, 1114111}
	wrongOnes = []rune{-1, -2, -128, -32768, math.MinInt32, math.MinInt32 + 97, 55296, 55297, 56319, 56320, 57342, 57343, 1114112, 1114113, 1 << 21, 1<<24 + 97, math.MaxInt32 - 1, math.MaxInt32}
)

// point stands in a model where the point of its line is; it is no sign.
const point rune = -7

// model is a line made in another way: one list, in which the point stands among the signs, and steps past one sign at a time.
type model []rune

// modelOf tells the model of a line that has a ahead of its point, and b behind it.
func modelOf(a, b []rune) model { return slices.Concat(model(a), model{point}, model(b)) }

func (m model) at() int { return slices.Index(m, point) }

// gap tells the line of which m is the model.
func (m model) gap() api.Gap {
	return api.Gap{A: []rune(slices.Clone(m[:m.at()])), B: []rune(slices.Clone(m[m.at()+1:]))}
}

func (m model) text() []rune {
	return []rune(slices.DeleteFunc(slices.Clone(m), func(r rune) bool { return r == point }))
}

// step tells m with the point past one sign, towards the end or the beginning, or m, where there is none.
func (m model) step(by int) model {
	at := m.at()
	if at+by < 0 || at+by >= len(m) {
		return m
	}
	m = slices.Clone(m)
	m[at], m[at+by] = m[at+by], m[at]
	return m
}

func (m model) insert(l []rune) (model, api.Errno) {
	if len(m)-1+len(l) > mostSigns {
		return nil, 5
	}
	for _, r := range l {
		m = slices.Insert(slices.Clone(m), m.at(), r)
	}
	return m, 0
}

// cut takes the signs beside the point out one by one.
func (m model) cut(n int) (model, []rune) {
	var out []rune
	for ; n > 0 && m.at() < len(m)-1; n-- {
		out = append(out, m[m.at()+1])
		m = slices.Delete(slices.Clone(m), m.at()+1, m.at()+2)
	}
	for ; n < 0 && m.at() > 0; n++ {
		out = slices.Insert(out, 0, m[m.at()-1])
		m = slices.Delete(slices.Clone(m), m.at()-1, m.at())
	}
	return m, out
}

// goTo leads the point to the place step by step, as long as it can go on.
func (m model) goTo(at int) model {
	for m.at() < at && m.at() < len(m)-1 {
		m = m.step(1)
	}
	for m.at() > at && m.at() > 0 {
		m = m.step(-1)
	}
	return m
}
