// Package word is layer 1: numbers as bytes, and sums.
package word

const (
	most = 8 // bytes of a uint64

	sumStart = 14695981039346656037
	sumTimes = 1099511628211
)

// fits tells whether b has n bytes from at on. Nothing is added to at, since a
// place at the end of int would wrap round and seem to be inside.
func fits(b []byte, at, n int) bool {
	return n >= 0 && n <= most && at >= 0 && at <= len(b)-n
}

// Put writes the n lowest bytes of v into b from at on, the lowest first. It
// holds all of them against b ahead, so that a refused call writes none.
func Put(b []byte, at int, v uint64, n int) bool {
	if !fits(b, at, n) {
		return false
	}
	for i := range n {
		b[at+i] = byte(v >> (8 * i))
	}
	return true
}

// Get answers the number that the n bytes of b from at on are, the lowest first.
func Get(b []byte, at, n int) (uint64, bool) {
	if !fits(b, at, n) {
		return 0, false
	}
	v := uint64(0)
	for i := range n {
		v |= uint64(b[at+i]) << (8 * i)
	}
	return v, true
}

// Sum answers a sum of the bytes of all parts. It hangs on the bytes and their
// order alone: where one part ends and the next begins makes no difference, so
// that a caller need not join them.
func Sum(parts ...[]byte) uint32 {
	h := uint64(sumStart)
	for _, part := range parts {
		for _, c := range part {
			h = (h ^ uint64(c)) * sumTimes
		}
	}
	return uint32(h>>32) ^ uint32(h)
}
