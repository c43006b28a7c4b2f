package scan_test

import (
	"fmt"
	"math/rand"
	"slices"
	"strings"
	"sync"
	"testing"

	"typebar/api"
	"typebar/scan"
	"typebar/vt"
)

// told is a command with its bytes.
type told struct {
	c api.Command
	s string
}

// isShown is what chapter 2 calls so, number by number.
func isShown(r rune) bool {
	return r >= 32 && r <= 126 || r >= 160 && r <= 55295 || r >= 57344 && r <= 1114111
}

// others are all right commands but those of CmdText, with their bytes, written from chapter 5 kind by kind.
var others = sync.OnceValue(func() []told {
	l := []told{
		{api.Command{Kind: 7}, "\x1b[K"}, {api.Command{Kind: 8}, "\x1b[J"}, {api.Command{Kind: 9}, "\x0d"},
		{api.Command{Kind: 10}, "\x0a"}, {api.Command{Kind: 11}, "\x08"}, {api.Command{Kind: 12}, "\x07"},
	}
	for i, letter := range "ABCD" {
		l = append(l, told{api.Command{Kind: 3 + i, A: 1}, fmt.Sprintf("\x1b[%c", letter)})
		for n := 2; n <= 80; n++ {
			l = append(l, told{api.Command{Kind: 3 + i, A: n}, fmt.Sprintf("\x1b[%d%c", n, letter)})
		}
	}
	for y := 1; y <= 24; y++ {
		for x := 1; x <= 80; x++ {
			l = append(l, told{api.Command{Kind: 2, A: y - 1, B: x - 1}, fmt.Sprintf("\x1b[%d;%dH", y, x)})
		}
	}
	return l
})

// texts are all right commands of CmdText, with their bytes.
var texts = sync.OnceValue(func() []told {
	var l []told
	for r := rune(0); r <= 1114111; r++ {
		if isShown(r) {
			l = append(l, told{api.Command{Kind: 1, R: r}, string(r)})
		}
	}
	return l
})

// book has the bytes of all right commands, and all beginnings of them that are shorter.
type book struct {
	whole map[string]api.Command
	part  map[string]bool
}

var theBook = sync.OnceValue(func() book {
	b := book{whole: map[string]api.Command{}, part: map[string]bool{}}
	for _, x := range slices.Concat(others(), texts()) {
		b.whole[x.s] = x.c
		for n := 1; n < len(x.s); n++ {
			b.part[x.s[:n]] = true
		}
	}
	return b
})

// next is P6.1, word by word, by what stands in the book.
func (b book) next(s string) (api.Command, string, api.Errno) {
	if s == "" {
		return api.Command{}, "", api.ErrEmpty
	}
	for n := 1; n <= len(s) && n <= 8; n++ {
		if c, ok := b.whole[s[:n]]; ok {
			return c, s[n:], api.OK
		}
	}
	if b.part[s] {
		return api.Command{}, "", api.ErrMore
	}
	return api.Command{}, "", api.ErrForm
}

// all is P6.2, word by word, by what stands in the book.
func (b book) all(s string) ([]api.Command, string, api.Errno) {
	var l []api.Command
	c, left, e := b.next(s)
	for e == api.OK {
		l = append(l, c)
		s = left
		c, left, e = b.next(s)
	}
	if e == api.ErrForm {
		return nil, "", e
	}
	return l, s, api.OK
}

// check holds what both calls tell of s against the book.
func (b book) check(t *testing.T, s string) {
	t.Helper()
	c, left, e := b.next(s)
	wantNext(t, s, c, left, e)
	l, left, e := b.all(s)
	wantAll(t, s, l, left, e)
}

func wantNext(t *testing.T, s string, c api.Command, left string, e api.Errno) {
	t.Helper()
	if gc, gl, ge := scan.Next(s); gc != c || gl != left || ge != e {
		t.Fatalf("P6.1: Next(%q) = %+v, %q, %d, want %+v, %q, %d", s, gc, gl, ge, c, left, e)
	}
}

func wantAll(t *testing.T, s string, l []api.Command, left string, e api.Errno) {
	t.Helper()
	if gl, gs, ge := scan.All(s); !slices.Equal(gl, l) || gs != left || ge != e {
		t.Fatalf("P6.2: All(%q) = %+v, %q, %d, want %+v, %q, %d", s, gl, gs, ge, l, left, e)
	}
}

// rows calls f with all texts of n of the pieces in l.
func rows(n int, l []string, f func(string)) {
	if n == 0 {
		f("")
		return
	}
	rows(n-1, l, func(s string) {
		for _, p := range l {
			f(s + p)
		}
	})
}

// eachByte is all bytes, a text each.
func eachByte() []string {
	var l []string
	for b := range 256 {
		l = append(l, string([]byte{byte(b)}))
	}
	return l
}

func TestNextOfEdges(t *testing.T) { // P6.1, written out
	for _, x := range []struct {
		s    string
		c    api.Command
		left string
	}{
		{"a", api.Command{Kind: api.CmdText, R: 97}, ""}, {"ab", api.Command{Kind: api.CmdText, R: 97}, "b"}, {" ", api.Command{Kind: api.CmdText, R: 32}, ""},
		{"~\x7f", api.Command{Kind: api.CmdText, R: 126}, "\x7f"}, {"[A", api.Command{Kind: api.CmdText, R: 91}, "A"}, {"1;", api.Command{Kind: api.CmdText, R: 49}, ";"},
		{"a\xff", api.Command{Kind: api.CmdText, R: 97}, "\xff"}, {"a\x1b", api.Command{Kind: api.CmdText, R: 97}, "\x1b"}, {"a\x00", api.Command{Kind: api.CmdText, R: 97}, "\x00"},
		{"\xc2\xa0\xc2", api.Command{Kind: api.CmdText, R: 160}, "\xc2"}, {"\xdf\xbf", api.Command{Kind: api.CmdText, R: 2047}, ""},
		{"\xe0\xa0\x80", api.Command{Kind: api.CmdText, R: 2048}, ""}, {"\xe4\xb8\xad\xe4", api.Command{Kind: api.CmdText, R: 20013}, "\xe4"},
		{"\xed\x9f\xbf", api.Command{Kind: api.CmdText, R: 55295}, ""}, {"\xee\x80\x80", api.Command{Kind: api.CmdText, R: 57344}, ""},
		{"\xef\xbf\xbd\xbd", api.Command{Kind: api.CmdText, R: 65533}, "\xbd"}, {"\xef\xbf\xbd", api.Command{Kind: api.CmdText, R: 65533}, ""}, {"\xef\xbf\xbf", api.Command{Kind: api.CmdText, R: 65535}, ""},
		{"\xf0\x90\x80\x80", api.Command{Kind: api.CmdText, R: 65536}, ""}, {"\xf4\x8f\xbf\xbf!", api.Command{Kind: api.CmdText, R: 1114111}, "!"},
		{"\x1b[1;1H", api.Command{Kind: api.CmdGo}, ""}, {"\x1b[1;1H> a", api.Command{Kind: api.CmdGo}, "> a"}, {"\x1b[2;10HH", api.Command{Kind: api.CmdGo, A: 1, B: 9}, "H"},
		{"\x1b[24;80H\x1b", api.Command{Kind: api.CmdGo, A: 23, B: 79}, "\x1b"}, {"\x1b[9;9H", api.Command{Kind: api.CmdGo, A: 8, B: 8}, ""}, {"\x1b[10;1H", api.Command{Kind: api.CmdGo, A: 9}, ""},
		{"\x1b[A", api.Command{Kind: api.CmdUp, A: 1}, ""}, {"\x1b[2A2", api.Command{Kind: api.CmdUp, A: 2}, "2"}, {"\x1b[80A", api.Command{Kind: api.CmdUp, A: 80}, ""},
		{"\x1b[BA", api.Command{Kind: api.CmdDown, A: 1}, "A"}, {"\x1b[9B", api.Command{Kind: api.CmdDown, A: 9}, ""}, {"\x1b[80B", api.Command{Kind: api.CmdDown, A: 80}, ""},
		{"\x1b[C\x00", api.Command{Kind: api.CmdRight, A: 1}, "\x00"}, {"\x1b[10C", api.Command{Kind: api.CmdRight, A: 10}, ""}, {"\x1b[79C", api.Command{Kind: api.CmdRight, A: 79}, ""},
		{"\x1b[D", api.Command{Kind: api.CmdLeft, A: 1}, ""}, {"\x1b[25D;1H", api.Command{Kind: api.CmdLeft, A: 25}, ";1H"}, {"\x1b[80D", api.Command{Kind: api.CmdLeft, A: 80}, ""},
		{"\x1b[K", api.Command{Kind: api.CmdRow}, ""}, {"\x1b[KK", api.Command{Kind: api.CmdRow}, "K"}, {"\x1b[J", api.Command{Kind: api.CmdAll}, ""}, {"\x1b[J\x1b[K", api.Command{Kind: api.CmdAll}, "\x1b[K"},
		{"\r", api.Command{Kind: api.CmdHome}, ""}, {"\r\n", api.Command{Kind: api.CmdHome}, "\n"}, {"\n", api.Command{Kind: api.CmdFeed}, ""}, {"\n\x80", api.Command{Kind: api.CmdFeed}, "\x80"},
		{"\b", api.Command{Kind: api.CmdBack}, ""}, {"\b\b", api.Command{Kind: api.CmdBack}, "\b"}, {"\a", api.Command{Kind: api.CmdBell}, ""}, {"\a\x1b[", api.Command{Kind: api.CmdBell}, "\x1b["},
	} {
		wantNext(t, x.s, x.c, x.left, api.OK)
	}
	wantNext(t, "", api.Command{}, "", api.ErrEmpty)
}

// beginnings are bytes that are the beginning of some right command's.
var beginnings = []string{
	"\x1b", "\x1b[", "\x1b[1", "\x1b[2", "\x1b[8", "\x1b[9", "\x1b[10", "\x1b[24", "\x1b[25", "\x1b[79", "\x1b[80",
	"\x1b[1;", "\x1b[9;", "\x1b[24;", "\x1b[1;1", "\x1b[1;8", "\x1b[1;9", "\x1b[1;10", "\x1b[1;80", "\x1b[24;8", "\x1b[24;80", "\x1b[10;79",
	"\xc2", "\xdf", "\xe0", "\xe0\xa0", "\xe4", "\xe4\xb8", "\xed\x9f", "\xef\xbf", "\xf0", "\xf0\x90", "\xf0\x90\x80", "\xf0\x9f\x98", "\xf4\x8f", "\xf4\x8f\xbf",
}

// wrongs are bytes that neither begin with a right command's, nor are a beginning of one's.
var wrongs = []string{
	// bytes that begin no command, and signs that are not shown
	"\x00", "\x01", "\x06", "\x09", "\x0b", "\x0c", "\x0e", "\x1a", "\x1c", "\x1f", "\x7f", "\xc2\x80", "\xc2\x85", "\xc2\x9b", "\xc2\x9f", "\x00a", "\x7fa", "\xc2\x9bK",
	// bytes that are no sign's
	"\x80", "\xa0", "\xbd", "\xbf", "\xc0", "\xc0\x8d", "\xc1", "\xc1\xbf", "\xc2a", "\xc2\xc2", "\xe0\x80", "\xe0\x9f\xbf", "\xe4a", "\xe4\xb8a", "\xe4\xb8\x1b", "\xe4\x1b[K",
	"\xed\xa0", "\xed\xa0\x80", "\xed\xbf\xbf", "\xef\xbfa", "\xef\xbf\xef", "\xf0\x80", "\xf0\x8f\xbf\xbf", "\xf0\x90\x80a", "\xf4\x90", "\xf4\x90\x80\x80", "\xf5", "\xf8\x88\x80\x80\x80", "\xfe", "\xff", "\xffa",
	// in the midst of a command
	"\x1b\x1b", "\x1b\x1b[A", "\x1b]", "\x1bA", "\x1bOA", "\x1bK", "\x1b\x00", "\x1b\xff", "\x1b\r", "\x1b 1", "\x1b\x9b",
	"\x1b[E", "\x1b[@", "\x1b[H", "\x1b[I", "\x1b[L", "\x1b[a", "\x1b[k", "\x1b[j", "\x1b[m", "\x1b[?", "\x1b[;", "\x1b[:", "\x1b[/", "\x1b[-", "\x1b[+1A", "\x1b[ ", "\x1b[[", "\x1b[\x1b", "\x1b[\x1b[A", "\x1b[\x00", "\x1b[\xe4", "\x1b[\n",
	"\x1b[2E", "\x1b[2@", "\x1b[2H", "\x1b[2J", "\x1b[2K", "\x1b[1K", "\x1b[2a", "\x1b[2:", "\x1b[2/", "\x1b[2 ", "\x1b[2-", "\x1b[2\x1b", "\x1b[2\xff", "\x1b[2\r",
	"\x1b[1;A", "\x1b[1;H", "\x1b[;1H", "\x1b[;H", "\x1b[1;;", "\x1b[1;1;", "\x1b[1;1A", "\x1b[1;2C", "\x1b[1;1G", "\x1b[1;1I", "\x1b[1;1h", "\x1b[1;1f", "\x1b[1;1K", "\x1b[1;1\x1b", "\x1b[1;\x1b", "\x1b[1;-", "\x1b[1;1 ", "\x1b[1;1:", "\x1b[1;:", "\x1b[1;/",
	// numbers beside the limits, with noughts ahead, or with one digit too many, and the 1 that is not written
	"\x1b[0", "\x1b[0A", "\x1b[00", "\x1b[01", "\x1b[02A", "\x1b[010C", "\x1b[0;1H", "\x1b[01;1H", "\x1b[024;1H", "\x1b[1;0", "\x1b[1;0H", "\x1b[1;01", "\x1b[1;080H", "\x1b[1;00",
	"\x1b[1A", "\x1b[1B", "\x1b[1C", "\x1b[1D", "\x1b[81", "\x1b[81A", "\x1b[82D", "\x1b[89", "\x1b[90", "\x1b[99B", "\x1b[100", "\x1b[100C", "\x1b[110", "\x1b[200", "\x1b[240", "\x1b[800", "\x1b[801A",
	"\x1b[25;", "\x1b[25;1H", "\x1b[26;", "\x1b[34;", "\x1b[79;1H", "\x1b[80;", "\x1b[80;1H", "\x1b[81;", "\x1b[241;", "\x1b[1;81", "\x1b[1;81H", "\x1b[1;82", "\x1b[1;90", "\x1b[1;99H", "\x1b[1;100", "\x1b[24;800", "\x1b[24;801H",
	"\x1b[257A", "\x1b[258A", "\x1b[4294967298A", "\x1b[18446744073709551618A", "\x1b[18446744073709551617;1H", "\x1b[1;18446744073709551617H", "\x1b[1;257H", "\x1b[257;1H",
}

func TestWhatWantsMore(t *testing.T) { // P6.1, P6.2, written out: an end in the midst of a command
	for _, s := range beginnings {
		wantNext(t, s, api.Command{}, "", api.ErrMore)
		wantAll(t, s, nil, s, api.OK)
		wantAll(t, "a\x1b[K"+s, []api.Command{{Kind: api.CmdText, R: 97}, {Kind: api.CmdRow}}, s, api.OK)
	}
}

func TestWrongBytes(t *testing.T) { // P6.1, P6.2, R1, written out: at the beginning, and behind whole commands
	for _, s := range wrongs {
		for _, tail := range []string{"", "a", "\x1b[K", "\x80", "\x1b"} {
			wantNext(t, s+tail, api.Command{}, "", api.ErrForm)
			wantAll(t, s+tail, nil, "", api.ErrForm)
			wantAll(t, "a"+s+tail, nil, "", api.ErrForm)
			wantAll(t, "\x1b[2;10H\xe4\xb8\xad\r\x1b[3D"+s+tail, nil, "", api.ErrForm)
		}
	}
}

func TestAllOfEdges(t *testing.T) { // P6.2, written out
	for _, x := range []struct {
		s    string
		l    []api.Command
		left string
		e    api.Errno
	}{
		{"", nil, "", api.OK},
		{"a", []api.Command{{Kind: api.CmdText, R: 97}}, "", api.OK},
		{"\x1b[1;1H> a \x1b[A", []api.Command{{Kind: api.CmdGo}, {Kind: api.CmdText, R: 62}, {Kind: api.CmdText, R: 32}, {Kind: api.CmdText, R: 97}, {Kind: api.CmdText, R: 32}, {Kind: api.CmdUp, A: 1}}, "", api.OK},
		{"\r\n\b\a\x1b[J\x1b[K\x1b[7C", []api.Command{{Kind: api.CmdHome}, {Kind: api.CmdFeed}, {Kind: api.CmdBack}, {Kind: api.CmdBell}, {Kind: api.CmdAll}, {Kind: api.CmdRow}, {Kind: api.CmdRight, A: 7}}, "", api.OK},
		{"\xe4\xb8\xad\xe4\xb8", []api.Command{{Kind: api.CmdText, R: 20013}}, "\xe4\xb8", api.OK},
		{"\x1b[B\x1b[24;8", []api.Command{{Kind: api.CmdDown, A: 1}}, "\x1b[24;8", api.OK},
		{"\x1b[BH\x1b", []api.Command{{Kind: api.CmdDown, A: 1}, {Kind: api.CmdText, R: 72}}, "\x1b", api.OK},
		{"\x1b[24;8", nil, "\x1b[24;8", api.OK},
		{"\x1b[24;81", nil, "", api.ErrForm}, {"ab\x1b[1A", nil, "", api.ErrForm}, {"ab\x1b[1", []api.Command{{Kind: api.CmdText, R: 97}, {Kind: api.CmdText, R: 98}}, "\x1b[1", api.OK},
		{"ab\x00", nil, "", api.ErrForm}, {"\xe4\xb8\xad\xe4\xb8a", nil, "", api.ErrForm}, {"a\x1b[K\x1b\x1b[K", nil, "", api.ErrForm},
	} {
		wantAll(t, x.s, x.l, x.left, x.e)
	}
}

// holdAlone holds that x is scanned again alone and with each of tails behind it, and that each beginning of it wants more.
func holdAlone(t *testing.T, x told, tails ...string) {
	t.Helper()
	if s, e := vt.Put(x.c); s != x.s || e != api.OK {
		t.Fatalf("P5.2: Put(%+v) = %q, %d", x.c, s, e)
	}
	wantNext(t, x.s, x.c, "", api.OK)
	wantAll(t, x.s, []api.Command{x.c}, "", api.OK)
	for _, tail := range tails {
		wantNext(t, x.s+tail, x.c, tail, api.OK)
	}
	for n := 1; n < len(x.s); n++ {
		wantNext(t, x.s[:n], api.Command{}, "", api.ErrMore)
		wantAll(t, x.s[:n], nil, x.s[:n], api.OK)
	}
}

func TestEachCommandIsScannedAgain(t *testing.T) { // P6.1, P6.2, P6.3
	tails := slices.Concat([]string{"A", "H", "0", "1", ";", "\x1b[K"}, beginnings, wrongs)
	for _, x := range others() {
		holdAlone(t, x, tails...)
	}
	for _, x := range texts() {
		holdAlone(t, x, "a", "\x80", "\x1b[")
	}
}

func TestSignsThatAreNoCommands(t *testing.T) { // P6.1, P6.2: signs that are not shown, and bytes that are no sign's
	b := theBook()
	for r := rune(0); r <= 1114111; r++ {
		if !isShown(r) && r != 27 && r != 13 && r != 10 && r != 8 && r != 7 && (r < 55296 || r > 57343) {
			wantNext(t, string(r), api.Command{}, "", api.ErrForm)
			wantAll(t, "a"+string(r), nil, "", api.ErrForm)
		}
	}
	for n := range 1 << 16 { // the form of a sign's bytes, with numbers in them that are no signs, or have shorter bytes, too
		b.check(t, string([]byte{byte(224 + n>>12), byte(128 + n>>6%64), byte(128 + n%64)}))
		b.check(t, string([]byte{byte(192 + n>>11), byte(128 + n>>6%64), byte(128 + n%64)}))
	}
	for n := 0; n < 1<<21; n += 13 {
		b.check(t, string([]byte{byte(240 + n>>18), byte(128 + n>>12%64), byte(128 + n>>6%64), byte(128 + n%64)}))
	}
}

func TestAllNumbers(t *testing.T) { // P6.1, P6.2
	b := theBook()
	for _, n := range slices.Concat(eachByte(), []string{"", "-1", "00", "000", "1 ", " 1"}) {
		for _, end := range []string{"", "A", "D", "E", "H", "K", "J", ";", ";H", ";1", ";1H", "0", "00H"} {
			b.check(t, "\x1b["+n+end)
			b.check(t, "\x1b[1;"+n+end)
		}
	}
	for n := range 1200 {
		for _, nought := range []string{"", "0", "00"} {
			for _, end := range []string{"", "@", "A", "B", "C", "D", "E", "H", "J", "K", ";", ";1H", ";80H", ";81H", "a"} {
				b.check(t, fmt.Sprintf("\x1b[%s%d%s", nought, n, end))
				b.check(t, fmt.Sprintf("\x1b[1;%s%d%s", nought, n, end))
				b.check(t, fmt.Sprintf("\x1b[24;%s%d%s", nought, n, end))
			}
		}
	}
	for y := range 120 {
		for x := range 120 {
			s := fmt.Sprintf("\x1b[%d;%dH", y, x)
			for n := range len(s) + 1 {
				b.check(t, s[:n])
			}
		}
	}
}

func TestShortTextsByTheBook(t *testing.T) { // P6.1, P6.2, R1
	b := theBook()
	check := func(s string) { b.check(t, s) }
	all := eachByte()
	for n := range 3 {
		rows(n, all, check)
		rows(n, all, func(s string) { check("\x1b[" + s) })
		rows(n, all, func(s string) { check("\xe4" + s) })
		rows(n, all, func(s string) { check("\xf0\x90" + s) })
	}
	for _, s := range []string{"\x1b[8", "\x1b[24", "\x1b[24;", "\x1b[2;1", "\x1b[1;80", "\xf4\x8f\xbf", "a\x1b[", "\x1b[K"} {
		rows(1, all, func(tail string) { check(s + tail) })
	}
	ends := strings.Split("\x1b [ 0 1 2 4 5 8 9 ; A D E H J K \r \x00 a \x7f \x80 \x9f \xa0 \xc2 \xe4 \xb8 \xef \xbf \xbd \xff", " ")
	rows(4, ends, check)
	rows(6, strings.Split("0 1 2 5 8 9 ; A H K", " "), func(s string) { check("\x1b[" + s) })
}

// samples are commands of each kind, the shortest ones and the longest ones.
var samples = []told{
	{api.Command{Kind: 1, R: 32}, " "}, {api.Command{Kind: 1, R: 49}, "1"}, {api.Command{Kind: 1, R: 59}, ";"}, {api.Command{Kind: 1, R: 65}, "A"}, {api.Command{Kind: 1, R: 72}, "H"}, {api.Command{Kind: 1, R: 91}, "["},
	{api.Command{Kind: 1, R: 160}, "\xc2\xa0"}, {api.Command{Kind: 1, R: 20013}, "\xe4\xb8\xad"}, {api.Command{Kind: 1, R: 65533}, "\xef\xbf\xbd"}, {api.Command{Kind: 1, R: 128512}, "\xf0\x9f\x98\x80"},
	{api.Command{Kind: 2}, "\x1b[1;1H"}, {api.Command{Kind: 2, A: 23, B: 79}, "\x1b[24;80H"}, {api.Command{Kind: 2, A: 9, B: 9}, "\x1b[10;10H"},
	{api.Command{Kind: 3, A: 1}, "\x1b[A"}, {api.Command{Kind: 3, A: 2}, "\x1b[2A"}, {api.Command{Kind: 3, A: 80}, "\x1b[80A"},
	{api.Command{Kind: 4, A: 1}, "\x1b[B"}, {api.Command{Kind: 4, A: 9}, "\x1b[9B"}, {api.Command{Kind: 4, A: 24}, "\x1b[24B"},
	{api.Command{Kind: 5, A: 1}, "\x1b[C"}, {api.Command{Kind: 5, A: 10}, "\x1b[10C"}, {api.Command{Kind: 5, A: 25}, "\x1b[25C"},
	{api.Command{Kind: 6, A: 1}, "\x1b[D"}, {api.Command{Kind: 6, A: 3}, "\x1b[3D"}, {api.Command{Kind: 6, A: 79}, "\x1b[79D"},
	{api.Command{Kind: 7}, "\x1b[K"}, {api.Command{Kind: 8}, "\x1b[J"}, {api.Command{Kind: 9}, "\r"}, {api.Command{Kind: 10}, "\n"}, {api.Command{Kind: 11}, "\b"}, {api.Command{Kind: 12}, "\a"},
}

// join is the commands of l, and all their bytes.
func join(l ...told) ([]api.Command, string) {
	var c []api.Command
	s := ""
	for _, x := range l {
		c = append(c, x.c)
		s += x.s
	}
	return c, s
}

func TestEachKindBehindEachOther(t *testing.T) { // P6.1, P6.2, P6.3
	for _, x := range samples {
		for _, y := range samples {
			c, s := join(x, y)
			wantNext(t, s, x.c, y.s, api.OK)
			wantAll(t, s, c, "", api.OK)
			for n := 1; n < len(y.s); n++ {
				wantAll(t, x.s+y.s[:n], c[:1], y.s[:n], api.OK)
			}
			for n := 1; n < len(y.s); n++ {
				theBook().check(t, y.s[:n]+x.s)
				theBook().check(t, x.s+y.s[:n]+x.s)
			}
			for _, z := range samples {
				c, s := join(x, y, z)
				wantAll(t, s, c, "", api.OK)
			}
		}
	}
}

// handful is n right commands, one behind the other, of all kinds.
func handful(g *rand.Rand, n int) []told {
	l := make([]told, n)
	for i := range l {
		switch g.Intn(3) {
		case 0:
			l[i] = samples[g.Intn(len(samples))]
		case 1:
			l[i] = others()[g.Intn(len(others()))]
		default:
			l[i] = texts()[g.Intn(len(texts()))]
		}
	}
	return l
}

// wholeAhead is how many of the commands end at the byte n, or ahead of it, and where the last one of these ends.
func wholeAhead(l []told, n int) (int, int) {
	end := 0
	for i, x := range l {
		if end+len(x.s) > n {
			return i, end
		}
		end += len(x.s)
	}
	return len(l), end
}

func TestCutAtEveryPlace(t *testing.T) { // P6.3
	g := rand.New(rand.NewSource(6))
	for i := range 400 {
		l := handful(g, i%25)
		c, s := join(l...)
		wantAll(t, s, c, "", api.OK)
		for cut := range len(s) + 1 {
			n, end := wholeAhead(l, cut)
			front, left, e := scan.All(s[:cut])
			if !slices.Equal(front, c[:n]) || left != s[end:cut] || e != api.OK {
				t.Fatalf("P6.3: All(%q), of %q = %+v, %q, %d, want %+v, %q", s[:cut], s, front, left, e, c[:n], s[end:cut])
			}
			rest, left, e := scan.All(left + s[cut:])
			if !slices.Equal(rest, c[n:]) || left != "" || e != api.OK {
				t.Fatalf("P6.3: the rest of %q, cut at %d, is %+v, %q, %d, want %+v", s, cut, rest, left, e, c[n:])
			}
		}
	}
}

func TestScannedPieceByPiece(t *testing.T) { // P6.3
	g := rand.New(rand.NewSource(7))
	for i := range 600 {
		l := handful(g, 1+i%60)
		c, s := join(l...)
		var got []api.Command
		left, most := "", 1+i%9
		for s != "" {
			n := min(len(s), 1+g.Intn(most))
			some, more, e := scan.All(left + s[:n])
			if e != api.OK || len(more) > 7 {
				t.Fatalf("P6.3: All(%q) = %+v, %q, %d", left+s[:n], some, more, e)
			}
			got, left, s = append(got, some...), more, s[n:]
		}
		if !slices.Equal(got, c) || left != "" {
			t.Fatalf("P6.3: piece by piece %+v are %+v, with %q left", c, got, left)
		}
	}
}

func TestWrongBytesAmongOthers(t *testing.T) { // P6.1, P6.2: a byte put in, taken out, or changed, anywhere
	b := theBook()
	g := rand.New(rand.NewSource(8))
	for i := range 3000 {
		_, s := join(handful(g, 1+i%6)...)
		for at := range len(s) {
			one := string([]byte{byte(g.Intn(256))})
			b.check(t, s[:at]+one+s[at:])
			b.check(t, s[:at]+one+s[at+1:])
			b.check(t, s[:at]+s[at+1:])
			b.check(t, s[:at]+wrongs[g.Intn(len(wrongs))]+s[at:])
		}
	}
	for range 100000 { // bytes of any sort
		s := make([]byte, g.Intn(12))
		g.Read(s)
		b.check(t, string(s))
	}
}

func TestLongTexts(t *testing.T) { // P6.1, P6.2, R1
	const n = 1 << 17
	for _, x := range samples {
		s := strings.Repeat(x.s, n)
		want := slices.Repeat([]api.Command{x.c}, n)
		if c, left, e := scan.Next(s); c != x.c || left != s[len(x.s):] || e != api.OK {
			t.Errorf("P6.1: Next of %d times %q = %+v, %d", n, x.s, c, e)
		}
		if l, left, e := scan.All(s); !slices.Equal(l, want) || left != "" || e != api.OK {
			t.Errorf("P6.2: %d times %q are %d commands, %q, %d", n, x.s, len(l), left, e)
		}
		if l, left, e := scan.All(s + "\x1b[8"); !slices.Equal(l, want) || left != "\x1b[8" || e != api.OK {
			t.Errorf("P6.2: %d times %q and more are %d commands, %q, %d", n, x.s, len(l), left, e)
		}
		if l, left, e := scan.All(s + "\x00"); len(l) != 0 || left != "" || e != api.ErrForm {
			t.Errorf("P6.2: %d times %q and what is wrong are %d commands, %q, %d", n, x.s, len(l), left, e)
		}
	}
	for _, s := range []string{"\x1b[" + strings.Repeat("0", n), "\x1b[1" + strings.Repeat("0", n) + "A", "\x1b[1;" + strings.Repeat("8", n), strings.Repeat("\x1b", n), strings.Repeat("\xff", n), strings.Repeat("\xe4", n)} {
		wantNext(t, s, api.Command{}, "", api.ErrForm)
		wantAll(t, s, nil, "", api.ErrForm)
	}
}

func TestAnswersAreTheSameAgain(t *testing.T) { // R2, R4
	l := []told{samples[0], samples[7], samples[11], samples[15], samples[25], samples[27]}
	c, s := join(l...)
	first, left, e := scan.All(s + "\x1b[2")
	for range 20 {
		for _, w := range slices.Concat(wrongs, beginnings) { // what gave up leaves nothing behind
			scan.Next(w)
			scan.All(s + w)
		}
		again, _, _ := scan.All(s + "\x1b[2")
		if !slices.Equal(again, c) {
			t.Fatalf("R2: All tells another thing later: %+v", again)
		}
		clear(again)
	}
	if !slices.Equal(first, c) || left != "\x1b[2" || e != api.OK {
		t.Fatalf("R2: what came out was changed later: %+v, %q, %d", first, left, e)
	}
}

func TestManyAtOnce(t *testing.T) { // R2: what one call gives up has no part in another one
	c, s := join(samples...)
	var all sync.WaitGroup
	for i := range 8 {
		all.Go(func() {
			for range 200 {
				if l, left, e := scan.All(s + beginnings[i]); !slices.Equal(l, c) || left != beginnings[i] || e != api.OK {
					t.Errorf("R2: All(%q) = %+v, %q, %d", s+beginnings[i], l, left, e)
					return
				}
				if _, _, e := scan.All(s + wrongs[i]); e != api.ErrForm {
					t.Errorf("R2: All(%q) = %d", s+wrongs[i], e)
					return
				}
			}
		})
	}
	all.Wait()
}
