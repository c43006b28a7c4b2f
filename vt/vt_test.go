package vt_test

import (
	"math"
	"math/rand"
	"slices"
	"strings"
	"sync"
	"testing"

	"typebar/api"
	"typebar/glyph"
	"typebar/vt"
)

// farOff are numbers that no kind and no field may be, whatever of them is looked at.
var farOff = []int{
	math.MinInt, math.MinInt + 1, -(1 << 32), -(1 << 32) + 1, -(1 << 32) + 7, -1 << 31, -(1 << 16), -256, -128, 128, 256, 256 + 1, 1 << 16, 1<<16 + 7,
	1<<31 - 1, 1 << 31, 1 << 32, 1<<32 + 1, 1<<32 + 2, 1<<32 + 7, 1<<32 + 80, math.MaxInt - 1, math.MaxInt,
}

// someNumbers are A and B at each limit and beside it, of one digit, of two and of three, and those that are far off.
var someNumbers = slices.Concat([]int{-100, -24, -10, -2, -1, 0, 1, 2, 8, 9, 10, 11, 12, 21, 22, 23, 24, 25, 26, 59, 60, 77, 78, 79, 80, 81, 82, 98, 99, 100, 101}, farOff)

// someSigns are signs of one to four bytes, those beside what is shown, numbers that are no signs, and the ends of the type.
var someSigns = []rune{
	math.MinInt32, math.MinInt32 + 1, -65533, -97, -2, -1, 0, 1, 7, 8, 10, 13, 27, 30, 31, 32, 33, 65, 72, 91, 97, 125, 126, 127, 128, 129, 158, 159, 160, 161,
	233, 2046, 2047, 2048, 4352, 20013, 55294, 55295, 55296, 56320, 57343, 57344, 65279, 65533, 65534, 65535, 65536, 128512, 262141, 1114110, 1114111,
	1114112, 1114113, 1 << 24, 1<<24 + 97, math.MaxInt32 - 1, math.MaxInt32,
}

// decimal is n, from 0 to 99, in digits: one, or two that do not begin with a nought.
func decimal(n int) string {
	digits := "0123456789"
	if n < 10 {
		return digits[n : n+1]
	}
	return digits[n/10:n/10+1] + digits[n%10:n%10+1]
}

// utf is the bytes of a sign, by sums.
func utf(r rune) string {
	tail := func(shift int) byte { return byte(128 + r>>shift%64) }
	switch {
	case r < 128:
		return string([]byte{byte(r)})
	case r < 2048:
		return string([]byte{byte(192 + r>>6), tail(0)})
	case r < 65536:
		return string([]byte{byte(224 + r>>12), tail(6), tail(0)})
	default:
		return string([]byte{byte(240 + r>>18), tail(12), tail(6), tail(0)})
	}
}

// rightOnes are all right commands but those of CmdText, with their bytes, written from the chapter kind by kind.
var rightOnes = sync.OnceValue(func() map[api.Command]string {
	m := map[api.Command]string{
		{Kind: 7}: "\x1b[K", {Kind: 8}: "\x1b[J", {Kind: 9}: "\x0d", {Kind: 10}: "\x0a", {Kind: 11}: "\x08", {Kind: 12}: "\x07",
		{Kind: 3, A: 1}: "\x1b[A", {Kind: 4, A: 1}: "\x1b[B", {Kind: 5, A: 1}: "\x1b[C", {Kind: 6, A: 1}: "\x1b[D",
	}
	for a := 2; a <= 80; a++ {
		m[api.Command{Kind: 3, A: a}] = "\x1b[" + decimal(a) + "A"
		m[api.Command{Kind: 4, A: a}] = "\x1b[" + decimal(a) + "B"
		m[api.Command{Kind: 5, A: a}] = "\x1b[" + decimal(a) + "C"
		m[api.Command{Kind: 6, A: a}] = "\x1b[" + decimal(a) + "D"
	}
	for y := 0; y <= 23; y++ {
		for x := 0; x <= 79; x++ {
			m[api.Command{Kind: 2, A: y, B: x}] = "\x1b[" + decimal(y+1) + ";" + decimal(x+1) + "H"
		}
	}
	return m
})

// isShown is what chapter 2 calls so, number by number.
func isShown(r rune) bool {
	return r >= 32 && r <= 126 || r >= 160 && r <= 55295 || r >= 57344 && r <= 1114111
}

// bytesOf is P5.1 and P5.2, word by word: the bytes of c, and whether c is right.
func bytesOf(c api.Command) (string, bool) {
	if c.Kind == 1 {
		if c.A == 0 && c.B == 0 && isShown(c.R) {
			return utf(c.R), true
		}
		return "", false
	}
	s, ok := rightOnes()[c]
	return s, ok
}

// hold holds all calls for the command c alone against the chapter.
func hold(t *testing.T, c api.Command) {
	t.Helper()
	s, ok := bytesOf(c)
	if is := vt.Is(c); is != ok {
		t.Fatalf("P5.1: Is(%+v) = %v", c, is)
	}
	want := api.OK
	if !ok {
		want = api.ErrArg
	}
	if p, e := vt.Put(c); p != s || e != want {
		t.Fatalf("P5.2: Put(%+v) = %q, %d, want %q, %d", c, p, e, s, want)
	}
	if n := vt.Cost(c); n != len(s) {
		t.Fatalf("P5.3: Cost(%+v) = %d, want %d", c, n, len(s))
	}
	if n := vt.Pads(c); n != padsOf(c) {
		t.Fatalf("P5.3: Pads(%+v) = %d, want %d", c, n, padsOf(c))
	}
}

// padsOf is how long a link waits behind c, word by word.
func padsOf(c api.Command) int {
	switch c {
	case api.Command{Kind: 7}:
		return 1
	case api.Command{Kind: 8}:
		return 2
	}
	return 0
}

func TestEachKindAtItsLimits(t *testing.T) { // P5.1, P5.2, P5.3, written out
	for _, x := range []struct {
		c    api.Command
		s    string
		pads int
	}{
		{api.Command{Kind: api.CmdText, R: 32}, " ", 0}, {api.Command{Kind: api.CmdText, R: 126}, "~", 0}, {api.Command{Kind: api.CmdText, R: 91}, "[", 0},
		{api.Command{Kind: api.CmdText, R: 160}, "\xc2\xa0", 0}, {api.Command{Kind: api.CmdText, R: 2047}, "\xdf\xbf", 0},
		{api.Command{Kind: api.CmdText, R: 2048}, "\xe0\xa0\x80", 0}, {api.Command{Kind: api.CmdText, R: 20013}, "\xe4\xb8\xad", 0},
		{api.Command{Kind: api.CmdText, R: 55295}, "\xed\x9f\xbf", 0}, {api.Command{Kind: api.CmdText, R: 57344}, "\xee\x80\x80", 0},
		{api.Command{Kind: api.CmdText, R: api.Bad}, "\xef\xbf\xbd", 0}, {api.Command{Kind: api.CmdText, R: 65535}, "\xef\xbf\xbf", 0},
		{api.Command{Kind: api.CmdText, R: 65536}, "\xf0\x90\x80\x80", 0}, {api.Command{Kind: api.CmdText, R: 1114111}, "\xf4\x8f\xbf\xbf", 0},
		{api.Command{Kind: api.CmdGo}, "\x1b[1;1H", 0}, {api.Command{Kind: api.CmdGo, A: 1, B: 9}, "\x1b[2;10H", 0}, {api.Command{Kind: api.CmdGo, A: 9, B: 8}, "\x1b[10;9H", 0},
		{api.Command{Kind: api.CmdGo, A: 8}, "\x1b[9;1H", 0}, {api.Command{Kind: api.CmdGo, A: 23}, "\x1b[24;1H", 0}, {api.Command{Kind: api.CmdGo, B: 79}, "\x1b[1;80H", 0},
		{api.Command{Kind: api.CmdGo, A: 23, B: 79}, "\x1b[24;80H", 0}, {api.Command{Kind: api.CmdGo, A: 19, B: 29}, "\x1b[20;30H", 0},
		{api.Command{Kind: api.CmdUp, A: 1}, "\x1b[A", 0}, {api.Command{Kind: api.CmdUp, A: 2}, "\x1b[2A", 0}, {api.Command{Kind: api.CmdUp, A: 80}, "\x1b[80A", 0},
		{api.Command{Kind: api.CmdDown, A: 1}, "\x1b[B", 0}, {api.Command{Kind: api.CmdDown, A: 9}, "\x1b[9B", 0}, {api.Command{Kind: api.CmdDown, A: 80}, "\x1b[80B", 0},
		{api.Command{Kind: api.CmdRight, A: 1}, "\x1b[C", 0}, {api.Command{Kind: api.CmdRight, A: 10}, "\x1b[10C", 0}, {api.Command{Kind: api.CmdRight, A: 80}, "\x1b[80C", 0},
		{api.Command{Kind: api.CmdLeft, A: 1}, "\x1b[D", 0}, {api.Command{Kind: api.CmdLeft, A: 11}, "\x1b[11D", 0}, {api.Command{Kind: api.CmdLeft, A: 80}, "\x1b[80D", 0},
		{api.Command{Kind: api.CmdRow}, "\x1b[K", 1}, {api.Command{Kind: api.CmdAll}, "\x1b[J", 2}, {api.Command{Kind: api.CmdHome}, "\r", 0},
		{api.Command{Kind: api.CmdFeed}, "\n", 0}, {api.Command{Kind: api.CmdBack}, "\b", 0}, {api.Command{Kind: api.CmdBell}, "\a", 0},
	} {
		if !vt.Is(x.c) {
			t.Errorf("P5.1: %+v is not right", x.c)
		}
		if s, e := vt.Put(x.c); s != x.s || e != api.OK {
			t.Errorf("P5.2: Put(%+v) = %q, %d, want %q", x.c, s, e, x.s)
		}
		if n := vt.Cost(x.c); n != len(x.s) {
			t.Errorf("P5.3: Cost(%+v) = %d, want %d", x.c, n, len(x.s))
		}
		if n := vt.Pads(x.c); n != x.pads {
			t.Errorf("P5.3: Pads(%+v) = %d, want %d", x.c, n, x.pads)
		}
	}
}

func TestWhatIsNotRight(t *testing.T) { // P5.1, P5.2, P5.3, written out
	for _, c := range []api.Command{
		{}, {Kind: -1}, {Kind: 13}, {R: 97}, {Kind: 13, R: 97}, {A: 1}, {Kind: math.MinInt}, {Kind: math.MaxInt}, {Kind: 1<<32 + 7}, {Kind: -7},
		{Kind: api.CmdText}, {Kind: api.CmdText, R: 31}, {Kind: api.CmdText, R: 127}, {Kind: api.CmdText, R: 128}, {Kind: api.CmdText, R: 159}, {Kind: api.CmdText, R: 27},
		{Kind: api.CmdText, R: -1}, {Kind: api.CmdText, R: 55296}, {Kind: api.CmdText, R: 57343}, {Kind: api.CmdText, R: 1114112},
		{Kind: api.CmdText, R: math.MinInt32}, {Kind: api.CmdText, R: math.MaxInt32}, {Kind: api.CmdText, A: 1, R: 97}, {Kind: api.CmdText, B: -1, R: 97},
		{Kind: api.CmdGo, A: -1}, {Kind: api.CmdGo, A: 24}, {Kind: api.CmdGo, B: -1}, {Kind: api.CmdGo, B: 80}, {Kind: api.CmdGo, R: 32}, {Kind: api.CmdGo, A: math.MaxInt},
		{Kind: api.CmdUp}, {Kind: api.CmdUp, A: -1}, {Kind: api.CmdUp, A: 81}, {Kind: api.CmdUp, A: 1, B: 1}, {Kind: api.CmdUp, A: 1, R: 97}, {Kind: api.CmdUp, A: math.MinInt},
		{Kind: api.CmdDown}, {Kind: api.CmdDown, A: 81}, {Kind: api.CmdDown, A: 2, B: -1}, {Kind: api.CmdRight}, {Kind: api.CmdRight, A: 81}, {Kind: api.CmdRight, A: 3, R: -1},
		{Kind: api.CmdLeft}, {Kind: api.CmdLeft, A: 81}, {Kind: api.CmdLeft, A: 4, B: 1},
		{Kind: api.CmdRow, A: 1}, {Kind: api.CmdRow, B: 1}, {Kind: api.CmdRow, R: 32}, {Kind: api.CmdAll, A: -1}, {Kind: api.CmdAll, B: 1}, {Kind: api.CmdAll, R: 97},
		{Kind: api.CmdHome, A: 1}, {Kind: api.CmdHome, R: 13}, {Kind: api.CmdFeed, B: -1}, {Kind: api.CmdFeed, R: 10}, {Kind: api.CmdBack, A: 1}, {Kind: api.CmdBack, R: 8},
		{Kind: api.CmdBell, B: 1}, {Kind: api.CmdBell, R: 7},
	} {
		if vt.Is(c) {
			t.Errorf("P5.1: %+v is right", c)
		}
		if s, e := vt.Put(c); s != "" || e != api.ErrArg {
			t.Errorf("P5.2: Put(%+v) = %q, %d", c, s, e)
		}
		if n, m := vt.Cost(c), vt.Pads(c); n != 0 || m != 0 {
			t.Errorf("P5.3: Cost and Pads of %+v are %d and %d", c, n, m)
		}
	}
}

func TestAllNumbersOfAllKinds(t *testing.T) { // P5.1, P5.2, P5.3
	for kind := -2; kind <= 15; kind++ {
		for a := -3; a <= 103; a++ {
			for b := -3; b <= 103; b++ {
				hold(t, api.Command{Kind: kind, A: a, B: b})
			}
		}
	}
}

func TestAllSignsAndNumbersThatAreNone(t *testing.T) { // P5.1, P5.2, P5.3
	for r := rune(-70000); r <= 1200000; r++ {
		hold(t, api.Command{Kind: 1, R: r})
	}
}

func TestKindsWithFieldsOfAllSorts(t *testing.T) { // P5.1, P5.2, P5.3
	for kind := -1; kind <= 14; kind++ {
		for _, a := range someNumbers {
			for _, b := range []int{-1, 0, 1, 23, 79, 80, math.MinInt, 1 << 32, math.MaxInt} {
				for _, r := range someSigns {
					hold(t, api.Command{Kind: kind, A: a, B: b, R: r})
				}
			}
			for _, b := range someNumbers {
				hold(t, api.Command{Kind: kind, A: a, B: b})
			}
		}
	}
	for _, kind := range farOff {
		for _, a := range []int{-1, 0, 1, 2, 80} {
			for _, r := range []rune{0, 7, 32, 97} {
				hold(t, api.Command{Kind: kind, A: a, R: r})
			}
		}
	}
	for _, r := range someSigns { // what the lower bits of numbers would be
		for _, kind := range []int{1, 256 + 1, 1<<16 + 1, 1<<32 + 1} {
			hold(t, api.Command{Kind: kind, R: r})
		}
	}
}

// handful makes n commands, right ones and others together.
func handful(n int, seed int64) []api.Command {
	g := rand.New(rand.NewSource(seed))
	l := make([]api.Command, n)
	for i := range l {
		c := api.Command{Kind: g.Intn(14)}
		switch {
		case c.Kind == 1:
			c.R = someSigns[g.Intn(len(someSigns))]
		case c.Kind == 2:
			c.A, c.B = g.Intn(26)-1, g.Intn(82)-1
		case c.Kind >= 3 && c.Kind <= 6:
			c.A = g.Intn(82)
		case g.Intn(4) == 0:
			c.A = g.Intn(3) - 1
		}
		l[i] = c
	}
	return l
}

func TestSeveralCostWhatEachDoes(t *testing.T) { // P5.3, P5.4
	if n, m := vt.Cost(), vt.Pads(); n != 0 || m != 0 {
		t.Errorf("P5.3: no command costs %d, and waits for %d", n, m)
	}
	if n, m := vt.Cost([]api.Command{}...), vt.Pads([]api.Command{}...); n != 0 || m != 0 {
		t.Errorf("P5.3: no command costs %d, and waits for %d", n, m)
	}
	l := []api.Command{{Kind: 7}, {Kind: 1, R: 20013}, {Kind: 7, A: 1}, {Kind: 8}, {Kind: 2, A: 23, B: 79}, {}, {Kind: 8}, {Kind: 7}, {Kind: 12}, {Kind: 3, A: 1}, {Kind: 8, R: 97}}
	if n, m := vt.Cost(l...), vt.Pads(l...); n != 27 || m != 6 {
		t.Errorf("P5.3: Cost and Pads of %+v are %d and %d, want 27 and 6", l, n, m)
	}
	for seed := range int64(300) {
		l := handful(int(seed), seed)
		cost, pads, s := 0, 0, ""
		for _, c := range l {
			cost += vt.Cost(c)
			pads += vt.Pads(c)
			p, _ := vt.Put(c)
			s += p
		}
		if n := vt.Cost(l...); n != cost || n != len(s) {
			t.Fatalf("P5.4: Cost(%+v) = %d, but each, by itself, makes %d", l, n, cost)
		}
		if n := vt.Pads(l...); n != pads {
			t.Fatalf("P5.3: Pads(%+v) = %d, but each, by itself, makes %d", l, n, pads)
		}
		for cut := range len(l) + 1 {
			if vt.Cost(l[:cut]...)+vt.Cost(l[cut:]...) != cost || vt.Pads(l[:cut]...)+vt.Pads(l[cut:]...) != pads {
				t.Fatalf("P5.4: %+v, cut at %d, costs something else", l, cut)
			}
			if len(l) > 30 {
				break
			}
		}
	}
	if n, m := vt.Cost(slices.Repeat([]api.Command{{Kind: 8}, {Kind: 1}}, 100000)...), vt.Pads(slices.Repeat([]api.Command{{Kind: 8}, {Kind: 8, B: 7}}, 100000)...); n != 300000 || m != 200000 {
		t.Errorf("P5.3: many cost %d, and wait for %d", n, m)
	}
}

// allBytes are the bytes of all right commands, as Put tells them.
func allBytes(t *testing.T) []string {
	t.Helper()
	var all []string
	add := func(c api.Command) {
		if s, e := vt.Put(c); e == api.OK {
			all = append(all, s)
		}
	}
	for c := range rightOnes() {
		add(c)
	}
	for r := rune(0); r <= 1114111; r++ {
		add(api.Command{Kind: 1, R: r})
	}
	if want := len(rightOnes()) + 1111999; len(all) != want {
		t.Fatalf("P5.1: %d commands are right, want %d", len(all), want)
	}
	return all
}

func TestOnlyTheFirstByteIsBelow32(t *testing.T) { // P5.4
	for _, s := range allBytes(t) {
		if len(s) < 1 || len(s) > 8 {
			t.Fatalf("P5.4: %q has %d bytes", s, len(s))
		}
		for i := 1; i < len(s); i++ {
			if s[i] < 32 {
				t.Fatalf("P5.4: %q has another byte below 32", s)
			}
		}
	}
}

func TestNoCommandIsABeginningOfAnother(t *testing.T) { // P5.4
	all := allBytes(t)
	slices.Sort(all) // what begins with s comes next to s
	for i := 1; i < len(all); i++ {
		if strings.HasPrefix(all[i], all[i-1]) {
			t.Fatalf("P5.4: %q is a beginning of %q", all[i-1], all[i])
		}
	}
}

func TestTextIsTheSignsBytes(t *testing.T) { // P5.2
	for r := rune(0); r <= 1114111; r++ {
		s, e := vt.Put(api.Command{Kind: api.CmdText, R: r})
		if p, _ := glyph.Put(r); e == api.OK && s != p || e != api.OK && isShown(r) {
			t.Fatalf("P5.2: Put of the sign %d = %q, %d", r, s, e)
		}
	}
}

func TestCommandsStayAsTheyAre(t *testing.T) { // R2, R4
	room := handful(40, 7)
	held := slices.Clone(room)
	for n := range 41 {
		l := room[:n]
		cost, pads := vt.Cost(l...), vt.Pads(l...)
		for _, c := range l {
			s, e := vt.Put(c)
			if again, err := vt.Put(c); again != s || err != e {
				t.Fatalf("R2: Put(%+v) = %q, %d, and later %q, %d", c, s, e, again, err)
			}
		}
		if vt.Cost(l...) != cost || vt.Pads(l...) != pads {
			t.Fatalf("R2: %d commands cost something else later", n)
		}
	}
	if !slices.Equal(room, held) {
		t.Fatal("R2: what was handed in was changed")
	}
}
