package word

import (
	"bytes"
	"encoding/binary"
	"hash/fnv"
	"math"
	"testing"
)

// marked answers n bytes that are all different from 0 and from each other, so
// that a byte that is written where it should not be is seen.
func marked(n int) []byte {
	b := make([]byte, n)
	for i := range b {
		b[i] = byte(0xa0 + i)
	}
	return b
}

// wrongPlaces are places and counts that are not all in 10 bytes.
var wrongPlaces = []struct{ at, n int }{
	{-1, 0}, {-1, 1}, {-1, 8}, {-8, 8}, {11, 0}, {10, 1}, {9, 2}, {3, 8}, {100, 4},
	{0, -1}, {0, 9}, {5, -1}, {10, -1}, {10, -10}, {1, 9}, {0, 10},
	{math.MinInt, 0}, {math.MinInt, 1}, {math.MinInt, 8},
	{math.MaxInt, 0}, {math.MaxInt, 1}, {math.MaxInt, 8}, {math.MaxInt - 7, 8}, {math.MaxInt - 8, 8},
	{0, math.MinInt}, {0, math.MaxInt}, {10, math.MinInt}, {10, math.MaxInt},
	{math.MaxInt, math.MinInt}, {math.MinInt, math.MaxInt},
	{math.MaxInt, math.MaxInt}, {math.MinInt, math.MinInt}, {-1, math.MaxInt}, {-1, math.MinInt},
}

// P1.1: the lowest bytes of v, the lowest first, at each place of b, of each count.
func TestPutAtEachPlace(t *testing.T) {
	numbers := []uint64{0, 1, 0xff, 0x100, 0x1122334455667788, 0x8000000000000000, math.MaxUint64}
	for _, v := range numbers {
		var low [8]byte
		binary.LittleEndian.PutUint64(low[:], v)
		for size := range 13 {
			for n := 0; n <= 8 && n <= size; n++ {
				for at := 0; at <= size-n; at++ {
					b, want := marked(size), marked(size)
					copy(want[at:at+n], low[:n])
					if !Put(b, at, v, n) || !bytes.Equal(b, want) {
						t.Fatalf("Put(%d bytes, %d, %x, %d): % x, want % x", size, at, v, n, b, want)
					}
				}
			}
		}
	}
}

// P1.1: the number of n bytes, at each place of b, of each count; b stays as it is.
func TestGetAtEachPlace(t *testing.T) {
	for size := range 13 {
		for n := 0; n <= 8 && n <= size; n++ {
			for at := 0; at <= size-n; at++ {
				b := marked(size)
				var low [8]byte
				copy(low[:], b[at:at+n])
				want := binary.LittleEndian.Uint64(low[:])
				if v, ok := Get(b, at, n); !ok || v != want {
					t.Fatalf("Get(%d bytes, %d, %d): %x %v, want %x", size, at, n, v, ok, want)
				}
				if !bytes.Equal(b, marked(size)) {
					t.Fatalf("Get(%d bytes, %d, %d) changed them: % x", size, at, n, b)
				}
			}
		}
	}
}

// P1.1: the chapter's example.
func TestGetExample(t *testing.T) {
	if v, ok := Get([]byte{0x34, 0x12}, 0, 2); !ok || v != 0x1234 {
		t.Errorf("%x %v", v, ok)
	}
}

// P1.1: what was Put is what Get answers, as far as n bytes hold it.
func TestPutThenGet(t *testing.T) {
	const v = 0xfedcba9876543210
	for n := range 9 {
		b := marked(8)
		want := uint64(v)
		if n < 8 {
			want = v % (1 << (8 * n))
		}
		if !Put(b, 8-n, v, n) {
			t.Fatalf("Put of %d", n)
		}
		if got, ok := Get(b, 8-n, n); !ok || got != want {
			t.Errorf("%d bytes: %x %v, want %x", n, got, ok, want)
		}
	}
}

// P1.1: false and nothing, if the bytes are not all there or n is another one.
func TestPutRefused(t *testing.T) {
	for _, w := range wrongPlaces {
		b := marked(10)
		if Put(b, w.at, 0, w.n) || !bytes.Equal(b, marked(10)) {
			t.Errorf("Put(10 bytes, %d, 0, %d): true, or % x", w.at, w.n, b)
		}
	}
}

// P1.1: 0 and false likewise.
func TestGetRefused(t *testing.T) {
	for _, w := range wrongPlaces {
		if v, ok := Get(marked(10), w.at, w.n); ok || v != 0 {
			t.Errorf("Get(10 bytes, %d, %d): %x %v", w.at, w.n, v, ok)
		}
	}
}

// P1.1: of nil and empty bytes there is none but the place 0 of none.
func TestNoBytes(t *testing.T) {
	for _, b := range [][]byte{nil, {}} {
		if !Put(b, 0, 7, 0) {
			t.Error("Put of none at 0")
		}
		if v, ok := Get(b, 0, 0); !ok || v != 0 {
			t.Errorf("Get of none at 0: %x %v", v, ok)
		}
		for _, w := range append([]struct{ at, n int }{{1, 0}, {0, 1}, {0, 8}}, wrongPlaces...) {
			if Put(b, w.at, 7, w.n) {
				t.Errorf("Put(none, %d, 7, %d)", w.at, w.n)
			}
			if v, ok := Get(b, w.at, w.n); ok || v != 0 {
				t.Errorf("Get(none, %d, %d): %x %v", w.at, w.n, v, ok)
			}
		}
	}
}

// P1.1: spare room behind b's end is not b: it is neither written nor read.
func TestSpareRoom(t *testing.T) {
	whole := marked(16)
	b := whole[:4]
	if Put(b, 4, 0, 1) || Put(b, 3, 0, 2) || Put(b, 0, 0, 8) || !bytes.Equal(whole, marked(16)) {
		t.Errorf("Put beyond the end: % x", whole)
	}
	if v, ok := Get(b, 3, 2); ok || v != 0 {
		t.Errorf("Get beyond the end: %x %v", v, ok)
	}
	if !Put(b, 2, math.MaxUint64, 2) || !bytes.Equal(whole[4:], marked(16)[4:]) {
		t.Errorf("Put up to the end: % x", whole)
	}
}

// P1.1: the sums of known texts, worked out elsewhere.
func TestSumKnown(t *testing.T) {
	known := []struct {
		text string
		sum  uint32
	}{
		{"", 0xcbf29ce4 ^ 0x84222325},
		{"a", 0xaf63dc4c ^ 0x8601ec8c},
		{"foobar", 0x85944171 ^ 0xf73967e8},
	}
	for _, k := range known {
		if got := Sum([]byte(k.text)); got != k.sum {
			t.Errorf("Sum(%q): %x, want %x", k.text, got, k.sum)
		}
	}
}

// wantSum is the sum by another one's hash.
func wantSum(b []byte) uint32 {
	h := fnv.New64a()
	h.Write(b)
	v := h.Sum64()
	return uint32(v>>32) ^ uint32(v)
}

// P1.1: the sums of each byte, and of many.
func TestSumOfAnyBytes(t *testing.T) {
	all := make([]byte, 0, 1024)
	for i := range 1024 {
		one := []byte{byte(i)}
		if got := Sum(one); got != wantSum(one) {
			t.Errorf("Sum of byte %d: %x, want %x", byte(i), got, wantSum(one))
		}
		all = append(all, byte(i*i+i/7))
		if got := Sum(all); got != wantSum(all) {
			t.Fatalf("Sum of %d bytes: %x, want %x", len(all), got, wantSum(all))
		}
	}
}

// P1.1: no part, nil ones and empty ones add nothing.
func TestSumOfNothing(t *testing.T) {
	want := wantSum(nil)
	if Sum() != want || Sum(nil) != want || Sum(nil, nil) != want || Sum([]byte{}, nil, []byte{}) != want {
		t.Errorf("%x %x %x, want %x", Sum(), Sum(nil), Sum(nil, nil), want)
	}
	var parts [][]byte
	if Sum(parts...) != want {
		t.Error("nil parts")
	}
	if Sum([]byte{0}) == want {
		t.Error("a byte 0 is a byte")
	}
}

// P1.1: one part behind the other, wherever they are cut, and in that order.
func TestSumOfParts(t *testing.T) {
	b := marked(20)
	want := wantSum(b)
	for i := range len(b) + 1 {
		for j := i; j <= len(b); j++ {
			if got := Sum(b[:i], nil, b[i:j], b[j:]); got != want {
				t.Fatalf("cut at %d and %d: %x, want %x", i, j, got, want)
			}
		}
	}
	if !bytes.Equal(b, marked(20)) {
		t.Errorf("Sum changed its parts: % x", b)
	}
	if Sum([]byte("a"), []byte("b")) == Sum([]byte("b"), []byte("a")) {
		t.Error("the order of parts")
	}
}
