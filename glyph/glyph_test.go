package glyph_test

import (
	"slices"
	"strings"
	"testing"

	"typebar/api"
	"typebar/glyph"
)

// badBytes are the bytes of api.Bad, by the chapter's rule.
const badBytes = "\xef\xbf\xbd"

// edges are the signs around each number at which something changes.
var edges = []rune{
	0, 1, 31, 32, 97, 126, 127, 128, 129, 255, 256, 2046, 2047, 2048, 2049, 4095, 4096, 20013,
	55294, 55295, 57344, 57345, 65532, 65533, 65534, 65535, 65536, 65537, 262143, 262144,
	1048575, 1048576, 1114110, 1114111,
}

// strangers are numbers that are no signs.
var strangers = []rune{-1 << 31, -1114111, -128, -2, -1, 55296, 55297, 56319, 56320, 57342, 57343, 1114112, 1114113, 2097151, 1<<31 - 1}

// edgeBytes are those around each number at which a byte means something else.
var edgeBytes = []byte{
	0, 1, 65, 127, 128, 129, 143, 144, 145, 159, 160, 161, 190, 191, 192, 193, 194, 195, 223, 224, 225,
	236, 237, 238, 239, 240, 241, 243, 244, 245, 247, 248, 255,
}

// spell tells the bytes of a sign as the chapter words it, by sums and divisions alone.
func spell(r int) string {
	more := func(k int) byte { return byte(128 + r/k%64) }
	switch {
	case r < 128:
		return string([]byte{byte(r)})
	case r < 2048:
		return string([]byte{byte(192 + r/64), more(1)})
	case r < 65536:
		return string([]byte{byte(224 + r/4096), more(64), more(1)})
	default:
		return string([]byte{byte(240 + r/262144), more(4096), more(64), more(1)})
	}
}

// book has the bytes of all signs, and all beginnings of them that are shorter.
type book struct {
	whole map[string]rune
	part  map[string]bool
}

func newBook() book {
	b := book{whole: map[string]rune{}, part: map[string]bool{}}
	for r := 0; r <= 1114111; r++ {
		if r >= 55296 && r <= 57343 {
			continue
		}
		s := spell(r)
		b.whole[s] = rune(r)
		for k := 1; k < len(s); k++ {
			b.part[s[:k]] = true
		}
	}
	return b
}

// next is P1.2, word by word, by what stands in the book.
func (b book) next(s string) (rune, int, api.Errno) {
	if s == "" {
		return 0, 0, api.ErrEmpty
	}
	for n := 1; n <= len(s) && n <= 4; n++ {
		if r, ok := b.whole[s[:n]]; ok {
			return r, n, api.OK
		}
	}
	if b.part[s] {
		return 0, 0, api.ErrMore
	}
	return api.Bad, 1, api.OK
}

// decode is P1.3, word by word, by what stands in the book.
func (b book) decode(s string) []rune {
	var l []rune
	for s != "" {
		r, n, e := b.next(s)
		if e == api.ErrMore {
			r, n = api.Bad, 1
		}
		l = append(l, r)
		s = s[n:]
	}
	return l
}

// check holds what Next and Decode tell of s against the book.
func (b book) check(t *testing.T, s string) {
	t.Helper()
	r, n, e := glyph.Next(s)
	if wr, wn, we := b.next(s); r != wr || n != wn || e != we {
		t.Fatalf("P1.2: Next(%q) = %d, %d, %d, want %d, %d, %d", s, r, n, e, wr, wn, we)
	}
	if l, w := glyph.Decode(s), b.decode(s); !slices.Equal(l, w) {
		t.Fatalf("P1.3: Decode(%q) = %v, want %v", s, l, w)
	}
}

// texts calls f with all texts of n of the bytes in l.
func texts(n int, l []byte, f func(string)) {
	if n == 0 {
		f("")
		return
	}
	texts(n-1, l, func(s string) {
		for _, b := range l {
			f(s + string([]byte{b}))
		}
	})
}

func allBytes() []byte {
	var l []byte
	for i := range 256 {
		l = append(l, byte(i))
	}
	return l
}

func TestIsAndPutOfAllSigns(t *testing.T) { // P1.1
	for r := -300000; r <= 1500000; r++ {
		sign := r >= 0 && r <= 1114111 && !(r >= 55296 && r <= 57343)
		want, err := "", api.ErrArg
		if sign {
			want, err = spell(r), api.OK
		}
		if glyph.Is(rune(r)) != sign {
			t.Fatalf("P1.1: Is(%d) is not %v", r, sign)
		}
		if s, e := glyph.Put(rune(r)); s != want || e != err {
			t.Fatalf("P1.1: Put(%d) = %q, %d, want %q, %d", r, s, e, want, err)
		}
	}
}

func TestPutOfEdges(t *testing.T) { // P1.1, written out
	for _, x := range []struct {
		r rune
		s string
	}{
		{0, "\x00"}, {65, "A"}, {127, "\x7f"},
		{128, "\xc2\x80"}, {228, "\xc3\xa4"}, {2047, "\xdf\xbf"},
		{2048, "\xe0\xa0\x80"}, {4095, "\xe0\xbf\xbf"}, {4096, "\xe1\x80\x80"}, {20013, "\xe4\xb8\xad"},
		{55295, "\xed\x9f\xbf"}, {57344, "\xee\x80\x80"}, {65533, badBytes}, {65535, "\xef\xbf\xbf"},
		{65536, "\xf0\x90\x80\x80"}, {128512, "\xf0\x9f\x98\x80"}, {262143, "\xf0\xbf\xbf\xbf"},
		{262144, "\xf1\x80\x80\x80"}, {1048576, "\xf4\x80\x80\x80"}, {1114111, "\xf4\x8f\xbf\xbf"},
	} {
		if s, e := glyph.Put(x.r); s != x.s || e != api.OK {
			t.Errorf("P1.1: Put(%d) = %q, %d, want %q", x.r, s, e, x.s)
		}
	}
}

func TestStrangers(t *testing.T) { // P1.1, P1.3, R1, R3
	for _, r := range strangers {
		if glyph.Is(r) {
			t.Errorf("P1.1: Is(%d)", r)
		}
		if s, e := glyph.Put(r); s != "" || e != api.ErrArg {
			t.Errorf("P1.1: Put(%d) = %q, %d", r, s, e)
		}
		if s := glyph.Encode([]rune{r}); s != badBytes {
			t.Errorf("P1.3: Encode of %d = %q", r, s)
		}
	}
}

func TestNextOfEdges(t *testing.T) { // P1.2, written out
	for _, x := range []struct {
		s string
		r rune
		n int
		e api.Errno
	}{
		{"", 0, 0, api.ErrEmpty},
		{"a", 97, 1, api.OK}, {"ab", 97, 1, api.OK}, {"\x00", 0, 1, api.OK}, {"a\xff", 97, 1, api.OK},
		{"\xe4\xb8\xad", 20013, 3, api.OK}, {"\xe4\xb8\xada", 20013, 3, api.OK}, {"\xe4\xb8\xad\xe4", 20013, 3, api.OK},
		{badBytes, api.Bad, 3, api.OK}, {badBytes + "\xbd", api.Bad, 3, api.OK},
		// beginnings of a sign's bytes
		{"\xc2", 0, 0, api.ErrMore}, {"\xdf", 0, 0, api.ErrMore}, {"\xe0", 0, 0, api.ErrMore},
		{"\xe0\xa0", 0, 0, api.ErrMore}, {"\xe4\xb8", 0, 0, api.ErrMore}, {"\xed\x9f", 0, 0, api.ErrMore},
		{"\xef\xbf", 0, 0, api.ErrMore}, {"\xf0", 0, 0, api.ErrMore}, {"\xf0\x90", 0, 0, api.ErrMore},
		{"\xf0\x90\x80", 0, 0, api.ErrMore}, {"\xf4\x8f", 0, 0, api.ErrMore}, {"\xf4\x8f\xbf", 0, 0, api.ErrMore},
		// beginnings with something else behind them
		{"\xc2a", api.Bad, 1, api.OK}, {"\xe4\xb8a", api.Bad, 1, api.OK}, {"\xe4\xe4", api.Bad, 1, api.OK},
		{"\xf0\x90\x80a", api.Bad, 1, api.OK}, {"\xf0\x90\x80\xf0", api.Bad, 1, api.OK},
		// bytes that begin no sign's
		{"\x80", api.Bad, 1, api.OK}, {"\xbf\xbf", api.Bad, 1, api.OK}, {"\xc0", api.Bad, 1, api.OK},
		{"\xc0\x80", api.Bad, 1, api.OK}, {"\xc1\xbf", api.Bad, 1, api.OK}, {"\xe0\x9f", api.Bad, 1, api.OK},
		{"\xe0\x80\x80", api.Bad, 1, api.OK}, {"\xed\xa0", api.Bad, 1, api.OK}, {"\xed\xbf\xbf", api.Bad, 1, api.OK},
		{"\xf0\x8f", api.Bad, 1, api.OK}, {"\xf4\x90", api.Bad, 1, api.OK}, {"\xf4\x90\x80\x80", api.Bad, 1, api.OK},
		{"\xf5", api.Bad, 1, api.OK}, {"\xf8\x88\x80\x80\x80", api.Bad, 1, api.OK}, {"\xff", api.Bad, 1, api.OK},
	} {
		if r, n, e := glyph.Next(x.s); r != x.r || n != x.n || e != x.e {
			t.Errorf("P1.2: Next(%q) = %d, %d, %d, want %d, %d, %d", x.s, r, n, e, x.r, x.n, x.e)
		}
	}
}

func TestDecodeOfEdges(t *testing.T) { // P1.3, written out
	for _, x := range []struct {
		s string
		l []rune
	}{
		{"", nil}, {"a", []rune{97}}, {"a\xe4\xb8\xadb", []rune{97, 20013, 98}},
		{"\xe4\xb8", []rune{api.Bad, api.Bad}}, {"\xe4\xb8a", []rune{api.Bad, api.Bad, 97}},
		{badBytes, []rune{api.Bad}}, {badBytes + "\xef\xbf", []rune{api.Bad, api.Bad, api.Bad}},
		{"\xf0\x9f\x98", []rune{api.Bad, api.Bad, api.Bad}}, {"\xf0\x9f\x98\x80", []rune{128512}},
		{"\xed\xa0\x80", []rune{api.Bad, api.Bad, api.Bad}}, {"\xf4\x90\x80\x80", []rune{api.Bad, api.Bad, api.Bad, api.Bad}},
		{"\xc0\x80", []rune{api.Bad, api.Bad}}, {"\xe4\xe4\xb8\xad", []rune{api.Bad, 20013}},
	} {
		if l := glyph.Decode(x.s); !slices.Equal(l, x.l) {
			t.Errorf("P1.3: Decode(%q) = %v, want %v", x.s, l, x.l)
		}
	}
}

func TestEncodeOfEdges(t *testing.T) { // P1.3
	for _, l := range [][]rune{nil, {}, {97}, {97, -1, 20013, 55296}, edges, strangers, slices.Concat(edges, strangers, edges)} {
		want := ""
		for _, r := range l {
			if slices.Contains(strangers, r) {
				want += badBytes
			} else {
				want += spell(int(r))
			}
		}
		if s := glyph.Encode(l); s != want {
			t.Errorf("P1.3: Encode(%v) = %q, want %q", l, s, want)
		}
	}
}

func TestNextAndDecodeByTheBook(t *testing.T) { // P1.2, P1.3, R1
	b := newBook()
	check := func(s string) { b.check(t, s) }
	for n := range 3 {
		texts(n, allBytes(), check)
	}
	for n := 3; n <= 4; n++ {
		texts(n, edgeBytes, check)
	}
	var few []byte
	for i := 0; i < len(edgeBytes); i += 3 {
		few = append(few, edgeBytes[i])
	}
	texts(5, few, check)
}

func TestPutIsToldAgain(t *testing.T) { // P1.4
	tails := []string{"", "\x00", "a", "\x80", "\xbf", "\xc2", "\xe4\xb8", "\xf4\x8f\xbf\xbf", "\xff"}
	for r := rune(0); r <= 1114111; r++ {
		s, e := glyph.Put(r)
		if e != api.OK {
			continue
		}
		for _, tail := range tails {
			if x, n, e := glyph.Next(s + tail); x != r || n != len(s) || e != api.OK {
				t.Fatalf("P1.4: Next(%q and %q) = %d, %d, %d, want %d", s, tail, x, n, e, r)
			}
		}
		// Were another sign's bytes a beginning of these, it would be told of that beginning.
		for k := 1; k < len(s); k++ {
			if x, n, e := glyph.Next(s[:k]); x != 0 || n != 0 || e != api.ErrMore {
				t.Fatalf("P1.4: Next(%q), of %q = %d, %d, %d", s[:k], s, x, n, e)
			}
		}
	}
}

func TestMoreIsShort(t *testing.T) { // P1.4
	more := func(s string) bool {
		_, _, e := glyph.Next(s)
		return e == api.ErrMore
	}
	check := func(s string) {
		if !more(s) {
			return
		}
		if len(s) > 3 {
			t.Fatalf("P1.4: %q wants more", s)
		}
		signs := 0
		for _, c := range allBytes() {
			l := s + string([]byte{c})
			r, n, e := glyph.Next(l)
			whole := e == api.OK && n == len(l)
			bad := e == api.OK && n == 1 && r == api.Bad
			if !whole && !bad && !(e == api.ErrMore && len(l) < 4) {
				t.Fatalf("P1.4: Next(%q) = %d, %d, %d", l, r, n, e)
			}
			if !bad {
				signs++
			}
		}
		if signs == 0 {
			t.Fatalf("P1.4: %q wants more, but nothing fits", s)
		}
	}
	for n := range 3 {
		texts(n, allBytes(), check)
	}
	for n := 3; n <= 4; n++ {
		texts(n, edgeBytes, check)
	}
}

func TestEncodedIsDecodedAgain(t *testing.T) { // P1.4
	var all []rune
	for r := rune(0); r <= 1114111; r++ {
		if glyph.Is(r) {
			all = append(all, r)
		}
	}
	back := slices.Clone(all)
	slices.Reverse(back)
	for _, l := range [][]rune{nil, {97}, edges, all, back} {
		for _, tail := range []string{"", "a", "\x80\x80\x80", "\xe4", "\xe4\xb8\xad", "\xff\xc2"} {
			got := glyph.Decode(glyph.Encode(l) + tail)
			if want := slices.Concat(l, glyph.Decode(tail)); !slices.Equal(got, want) {
				t.Fatalf("P1.4: %d signs with %q behind them come back as %d", len(l), tail, len(got))
			}
		}
	}
}

func TestArgumentsStayAsTheyAre(t *testing.T) { // R2, R4
	l := slices.Concat(edges, strangers)
	kept := slices.Clone(l)
	s := glyph.Encode(l)
	if !slices.Equal(l, kept) {
		t.Fatalf("R2: Encode changed what it was handed: %v", l)
	}
	got := glyph.Decode(s)
	held := slices.Clone(got)
	clear(l)
	for i := range 50 {
		glyph.Encode(l[:i%len(l)])
		again := glyph.Decode(s)
		if !slices.Equal(again, held) {
			t.Fatalf("R2: Decode tells another thing the %d. time: %v", i+2, again)
		}
		clear(again)
	}
	if !slices.Equal(got, held) || s != glyph.Encode(kept) {
		t.Fatal("R2: what came out was changed later")
	}
}

func TestErrorsChangeNothing(t *testing.T) { // R1, R4
	for range 3 {
		for _, s := range []string{"", "\xe4\xb8", "\xf4\x8f\xbf"} {
			if r, n, e := glyph.Next(s); r != 0 || n != 0 || e == api.OK {
				t.Errorf("R1: Next(%q) = %d, %d, %d", s, r, n, e)
			}
		}
		if s, e := glyph.Put(55296); s != "" || e != api.ErrArg {
			t.Errorf("R1: Put = %q, %d", s, e)
		}
		if r, n, e := glyph.Next("\xe4\xb8\xad"); r != 20013 || n != 3 || e != api.OK {
			t.Errorf("R4: Next = %d, %d, %d", r, n, e)
		}
	}
}

func TestLongTexts(t *testing.T) { // P1.2, P1.3, R1
	const n = 1 << 20
	for _, x := range []struct {
		piece string
		l     []rune
	}{{"a", []rune{97}}, {"\xe4\xb8\xad", []rune{20013}}, {"\xe4\xb8", []rune{api.Bad, api.Bad}}, {"\xff", []rune{api.Bad}}} {
		s := strings.Repeat(x.piece, n)
		if l := glyph.Decode(s); len(l) != n*len(x.l) || !slices.Equal(l[:len(x.l)], x.l) || l[len(l)-1] != x.l[len(x.l)-1] {
			t.Errorf("P1.3: %d times %q are %d signs", n, x.piece, len(l))
		}
		if r, k, e := glyph.Next(s); r != x.l[0] || e != api.OK || k < 1 || k > 3 {
			t.Errorf("P1.2: Next of %d times %q = %d, %d, %d", n, x.piece, r, k, e)
		}
	}
}

func TestExampleOfTheWhole(t *testing.T) { // the document's first example
	if r, n, e := glyph.Next("\xe4\xb8\xad"); r != 20013 || n != 3 || e != api.OK {
		t.Errorf("228, 184, 173: %d, %d, %d", r, n, e)
	}
	if _, _, e := glyph.Next("\xe4\xb8"); e != api.ErrMore {
		t.Errorf("228, 184: %d", e)
	}
	if l := glyph.Decode("\xe4\xb8a"); !slices.Equal(l, []rune{65533, 65533, 97}) {
		t.Errorf("228, 184, a: %v", l)
	}
}
