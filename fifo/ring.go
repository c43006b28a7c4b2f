package fifo

// ring is a number of places in which things wait, one behind the other; behind the last place comes the first one again, so that nothing is moved when a thing leaves.
type ring[T any] struct {
	places []T
	// first is the place of what is ahead of all others, and n is how many wait.
	first, n int
}

func newRing[T any](room int) ring[T] { return ring[T]{places: make([]T, room)} }

func (r *ring[T]) isFull() bool { return r.n == len(r.places) }

func (r *ring[T]) isEmpty() bool { return r.n == 0 }

// put puts v behind all others; the ring is not full.
func (r *ring[T]) put(v T) {
	r.places[(r.first+r.n)%len(r.places)] = v
	r.n++
}

// take takes what is ahead of all others; the ring is not empty.
func (r *ring[T]) take() T {
	v := r.places[r.first]
	// What has left is not kept: a place that waits for another thing holds none.
	clear(r.places[r.first : r.first+1])
	r.first = (r.first + 1) % len(r.places)
	r.n--
	return v
}
