package fifo_test

import (
	"math/rand"
	"slices"
	"testing"

	"typebar/api"
	"typebar/fifo"
)

// begin tells a new fifo of a right room.
func begin(t *testing.T, room int) *fifo.Fifo {
	t.Helper()
	f, e := fifo.New(room)
	if f == nil || e != api.OK {
		t.Fatalf("P8.1: New(%d) = %v, %d", room, f, e)
	}
	return f
}

func holdCounts(t *testing.T, f *fifo.Fifo, n, lost int) {
	t.Helper()
	if f.Len() != n || f.Lost() != lost {
		t.Fatalf("P8.1: Len() = %d, Lost() = %d, want %d, %d", f.Len(), f.Lost(), n, lost)
	}
}

func holdPush(t *testing.T, f *fifo.Fifo, b byte, at int, want api.Errno) {
	t.Helper()
	if e := f.Push(b, at); e != want {
		t.Fatalf("P8.2: Push(%d, %d) = %d, want %d", b, at, e, want)
	}
}

func holdPop(t *testing.T, f *fifo.Fifo, b byte, at int) {
	t.Helper()
	if s, e := f.Pop(); s != (api.Stamped{B: b, At: at}) || e != api.OK {
		t.Fatalf("P8.3: Pop() = %v, %d, want %d, %d", s, e, b, at)
	}
}

func holdEmpty(t *testing.T, f *fifo.Fifo) {
	t.Helper()
	if s, e := f.Pop(); s != (api.Stamped{}) || e != 6 {
		t.Fatalf("P8.3: Pop() = %v, %d, want 6", s, e)
	}
}

func TestNewOfAllRooms(t *testing.T) { // P8.1, R1, R3
	for room := 1; room <= greatestRoom; room++ {
		f := begin(t, room)
		holdCounts(t, f, 0, 0)
		holdEmpty(t, f)
		for i := range room {
			holdPush(t, f, byte(i), i, 0)
			holdCounts(t, f, i+1, 0)
		}
		holdPush(t, f, 'x', room, 5)
		holdCounts(t, f, room, 1)
		for i := range room {
			holdPop(t, f, byte(i), i)
			holdCounts(t, f, room-i-1, 1)
		}
		holdEmpty(t, f)
		holdCounts(t, f, 0, 1)
	}
}

func TestNewOfWrongRooms(t *testing.T) { // P8.1, R1, R3
	rooms := slices.Clone(farOff)
	for i := range 200 {
		rooms = append(rooms, -i, greatestRoom+1+i)
	}
	for _, room := range rooms {
		if f, e := fifo.New(room); f != nil || e != 4 {
			t.Errorf("P8.1: New(%d) = %v, %d, want 4", room, f, e)
		}
	}
}

func TestNil(t *testing.T) { // P8.1, P8.2, P8.3, R1
	var f *fifo.Fifo
	for _, at := range append(slices.Clone(farOff), 5) {
		holdPush(t, f, 'a', at, 8)
		holdCounts(t, f, 0, 0)
		if s, e := f.Pop(); s != (api.Stamped{}) || e != 8 {
			t.Fatalf("P8.3: Pop() of nil = %v, %d, want 8", s, e)
		}
	}
}

func TestPushOfAllBytes(t *testing.T) { // P8.2, P8.3
	f := begin(t, 1)
	for b := range 256 {
		holdPush(t, f, byte(b), b/3, 0)
		holdPop(t, f, byte(b), b/3)
	}
	holdCounts(t, f, 0, 0)
}

func TestPushOfTicks(t *testing.T) { // P8.2, written out
	f := begin(t, 8)
	holdPush(t, f, 'a', -1, 1)
	holdPush(t, f, 'a', greatestTick+1, 1)
	holdCounts(t, f, 0, 0)
	holdPush(t, f, 'a', 0, 0)
	holdPush(t, f, 'b', 0, 0)
	holdPush(t, f, 'c', 7, 0)
	holdPush(t, f, 'd', 6, 1)
	holdPush(t, f, 'd', 0, 1)
	holdPush(t, f, 'd', -1, 1)
	holdPush(t, f, 'd', 7, 0)
	holdPush(t, f, 'e', 8, 0)
	holdPush(t, f, 'f', greatestTick-1, 0)
	holdPush(t, f, 'g', greatestTick, 0)
	holdPush(t, f, 'h', greatestTick+1, 1)
	holdPush(t, f, 'h', greatestTick-1, 1)
	holdPush(t, f, 'h', greatestTick, 0)
	holdPush(t, f, 'i', greatestTick, 5)
	holdCounts(t, f, 8, 1)
	for i, at := range []int{0, 0, 7, 7, 8, greatestTick - 1, greatestTick, greatestTick} {
		holdPop(t, f, byte('a'+i), at)
	}
	holdEmpty(t, f)
	holdPush(t, f, 'j', greatestTick, 0)
	holdPop(t, f, 'j', greatestTick)
}

func TestPushOfWrongTicksIsNothing(t *testing.T) { // P8.2, R3, R4
	for _, waits := range []int{0, 1, 2, 3} {
		f := begin(t, 3)
		for i := range waits {
			holdPush(t, f, byte('a'+i), 40+i, 0)
		}
		latest := 40 + waits - 1
		for _, at := range farOff {
			if waits > 0 && at < latest || at < 0 || at > greatestTick {
				holdPush(t, f, 'x', at, 1)
				holdCounts(t, f, waits, 0)
			}
		}
		// No wrong tick is kept, however late: what comes in time is taken yet.
		holdPush(t, f, 'y', 50, api.Errno(5*(waits/3)))
		for i := range waits {
			holdPop(t, f, byte('a'+i), 40+i)
		}
		if waits < 3 {
			holdPop(t, f, 'y', 50)
		}
		holdEmpty(t, f)
	}
}

func TestPushOfTicksBehindWhatIsGone(t *testing.T) { // P8.2: the tick of what was taken, or lost, counts yet
	f := begin(t, 1)
	holdPush(t, f, 'a', 5, 0)
	holdPush(t, f, 'b', 4, 1)
	holdCounts(t, f, 1, 0)
	holdPush(t, f, 'b', 9, 5)
	holdPush(t, f, 'c', 8, 1)
	holdPush(t, f, 'c', 9, 5)
	holdCounts(t, f, 1, 2)
	holdPop(t, f, 'a', 5)
	holdPush(t, f, 'd', 8, 1)
	holdPush(t, f, 'd', 5, 1)
	holdCounts(t, f, 0, 2)
	holdPush(t, f, 'd', 9, 0)
	holdPop(t, f, 'd', 9)
	holdEmpty(t, f)
	holdPush(t, f, 'e', 8, 1)
	holdPush(t, f, 'e', 10, 0)
	holdPush(t, f, 'f', greatestTick, 5)
	holdPop(t, f, 'e', 10)
	holdPush(t, f, 'g', greatestTick-1, 1)
	holdPush(t, f, 'g', greatestTick+1, 1)
	holdPush(t, f, 'g', greatestTick, 0)
	holdCounts(t, f, 1, 3)
}

func TestPlacesComeRound(t *testing.T) { // P8.2, P8.3, P8.4, written out
	f := begin(t, 3)
	holdPush(t, f, 'a', 1, 0)
	holdPush(t, f, 'b', 1, 0)
	holdPop(t, f, 'a', 1)
	holdPush(t, f, 'c', 2, 0)
	holdPush(t, f, 'd', 2, 0)
	holdPush(t, f, 'e', 3, 5)
	holdPop(t, f, 'b', 1)
	holdPush(t, f, 'f', 3, 0)
	holdPush(t, f, 'g', 3, 5)
	holdPush(t, f, 'h', 3, 5)
	holdPop(t, f, 'c', 2)
	holdPop(t, f, 'd', 2)
	holdPop(t, f, 'f', 3)
	holdEmpty(t, f)
	holdCounts(t, f, 0, 3)
}

// both are a fifo and its model, which are told the same.
type both struct {
	t    *testing.T
	f    *fifo.Fifo
	m    *model
	outs []api.Stamped
}

func beginBoth(t *testing.T, room int) *both {
	return &both{t: t, f: begin(t, room), m: &model{room: room}}
}

func (x *both) push(b byte, at int) {
	x.t.Helper()
	holdPush(x.t, x.f, b, at, x.m.push(b, at))
	holdCounts(x.t, x.f, x.m.waiting(), len(x.m.gone))
}

func (x *both) pop() {
	x.t.Helper()
	want, wantE := x.m.pop()
	s, e := x.f.Pop()
	if s != want || e != wantE {
		x.t.Fatalf("P8.3: Pop() = %v, %d, want %v, %d", s, e, want, wantE)
	}
	if e == api.OK {
		x.outs = append(x.outs, s)
	}
	holdCounts(x.t, x.f, x.m.waiting(), len(x.m.gone))
}

// close takes all that waits, and holds all that came out against all that went in.
func (x *both) close() {
	x.t.Helper()
	for x.m.waiting() > 0 {
		x.pop()
	}
	x.pop()
	if !slices.Equal(x.outs, x.m.kept) {
		x.t.Fatalf("P8.4: %v came out, %v went in", x.outs, x.m.kept)
	}
}

// deeds are what may be done, told by the tick of the last byte.
var deeds = []func(x *both, b byte){
	func(x *both, b byte) { x.pop() },
	func(x *both, b byte) { x.push(b, max(x.m.tick(), 0)) },
	func(x *both, b byte) { x.push(b, x.m.tick()+1) },
	func(x *both, b byte) { x.push(b, x.m.tick()-1) },
	func(x *both, b byte) { x.push(b, greatestTick+1) },
}

func TestAllShortStories(t *testing.T) { // P8.1 to P8.4, R2, R4
	const long = 7
	stories := 1
	for range long {
		stories *= len(deeds)
	}
	for room := 1; room <= 3; room++ {
		for story := range stories {
			x := beginBoth(t, room)
			for i, left := 0, story; i < long; i, left = i+1, left/len(deeds) {
				deeds[left%len(deeds)](x, byte('a'+i))
			}
			x.close()
		}
	}
}

func TestLongStories(t *testing.T) { // P8.1 to P8.4, R2, R4
	random := rand.New(rand.NewSource(8))
	for room := 1; room <= greatestRoom; room++ {
		x := beginBoth(t, room)
		for range 12 {
			// Now more comes than goes, now more goes than comes: so it is full, and empty, more than once.
			pops := random.Intn(10)
			for range 40 {
				if random.Intn(10) < pops {
					x.pop()
				} else {
					deeds[1+random.Intn(len(deeds)-1)](x, byte(random.Intn(256)))
				}
			}
		}
		x.close()
	}
}

func TestManyAreLost(t *testing.T) { // P8.1, P8.2, P8.4
	f := begin(t, 2)
	holdPush(t, f, 'a', 0, 0)
	holdPush(t, f, 'b', 0, 0)
	for i := range 100000 {
		if e := f.Push('x', i); e != 5 || f.Lost() != i+1 || f.Len() != 2 {
			t.Fatalf("P8.2: byte %d behind a full fifo: %d, %d lost, %d wait", i, e, f.Lost(), f.Len())
		}
	}
	holdPop(t, f, 'a', 0)
	holdPush(t, f, 'c', 99999, 0)
	holdPop(t, f, 'b', 0)
	holdPop(t, f, 'c', 99999)
	holdEmpty(t, f)
	holdCounts(t, f, 0, 100000)
}

func TestFifosAreApart(t *testing.T) { // R2: what one is told is nothing to another one
	random := rand.New(rand.NewSource(88))
	var l []*both
	for i := range 6 {
		l = append(l, beginBoth(t, 1+i%3))
	}
	for range 400 {
		deeds[random.Intn(len(deeds))](l[random.Intn(len(l))], byte(random.Intn(256)))
		for _, x := range l {
			holdCounts(t, x.f, x.m.waiting(), len(x.m.gone))
		}
	}
	for _, x := range l {
		x.close()
	}
}

func TestAskingChangesNothing(t *testing.T) { // P8.1, P8.3, R2, R4
	f := begin(t, 2)
	for range 5 {
		holdEmpty(t, f)
		holdCounts(t, f, 0, 0)
	}
	holdPush(t, f, 'a', 3, 0)
	holdPush(t, f, 'b', 4, 0)
	for range 5 {
		holdPush(t, f, 'x', 2, 1)
		holdCounts(t, f, 2, 0)
	}
	holdPop(t, f, 'a', 3)
	holdPop(t, f, 'b', 4)
	for range 5 {
		holdEmpty(t, f)
		holdCounts(t, f, 0, 0)
	}
	holdPush(t, f, 'c', 4, 0)
	holdPush(t, f, 'd', 4, 0)
	holdPush(t, f, 'e', 4, 5)
	holdPop(t, f, 'c', 4)
}
