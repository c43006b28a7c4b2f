package fifo

import (
	"slices"
	"testing"
)

// The places that were left can't be seen by the package's calls: so the ring is looked at itself.
func TestRingClearsPlacesThatWereLeft(t *testing.T) { // Ways: clear, generic-type
	for room := 1; room <= 5; room++ {
		for first := range 2 * room {
			r := newRing[*int](room)
			for range first {
				r.put(new(int))
				r.take()
			}
			var in []*int
			for i := range room {
				v := i
				in = append(in, &v)
				r.put(&v)
			}
			if !r.isFull() || r.isEmpty() {
				t.Fatalf("a ring of %d with %d in it is not full", room, r.n)
			}
			for i, want := range in {
				if got := r.take(); got != want {
					t.Fatalf("a ring of %d, from %d on, tells another thing as number %d", room, first, i)
				}
				held := 0
				for _, p := range r.places {
					if p != nil {
						held++
						if slices.Index(in, p) <= i {
							t.Fatalf("a ring of %d, from %d on, has a thing yet that was taken, behind number %d", room, first, i)
						}
					}
				}
				if held != r.n || r.n != room-i-1 {
					t.Fatalf("a ring of %d, from %d on, has %d things, and %d in it, behind number %d", room, first, held, r.n, i)
				}
			}
			if !r.isEmpty() || r.isFull() {
				t.Fatalf("a ring of %d is not empty", room)
			}
		}
	}
}
