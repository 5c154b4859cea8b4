package entry

import (
	"headland/api"
	"math"
	"slices"
	"testing"
)

// writeBit is the number that Write adds, written out.
const writeBit = 1099511627776

// known are entries and their numbers, worked out by hand: the chapter's example, and
// the first and the last one of each kind among them.
var known = []struct {
	e api.Entry
	v uint64
}{
	{api.Entry{}, 0},
	{api.Entry{Kind: api.Nothing}, 0},
	{api.Entry{Kind: api.Frame}, 1},
	{api.Entry{Kind: api.Frame, N: 1}, 5},
	{api.Entry{Kind: api.Frame, N: 2}, 9},
	{api.Entry{Kind: api.Frame, N: 3}, 13},
	{api.Entry{Kind: api.Frame, N: 31}, 125},
	{api.Entry{Kind: api.Frame, N: 32}, 129},
	{api.Entry{Kind: api.Frame, N: 63}, 253},
	{api.Entry{Kind: api.Frame, N: 64}, 257},
	{api.Entry{Kind: api.Frame, N: 512}, 2049},
	{api.Entry{Kind: api.Frame, N: 1022}, 4089},
	{api.Entry{Kind: api.Frame, N: 1023}, 4093},
	{api.Entry{Kind: api.Frame, Write: true}, 1099511627777},
	{api.Entry{Kind: api.Frame, N: 1, Write: true}, 1099511627781},
	{api.Entry{Kind: api.Frame, N: 3, Write: true}, 1099511627789},
	{api.Entry{Kind: api.Frame, N: 1022, Write: true}, 1099511631865},
	{api.Entry{Kind: api.Frame, N: 1023, Write: true}, 1099511631869},
	{api.Entry{Kind: api.Slot}, 2},
	{api.Entry{Kind: api.Slot, N: 1}, 6},
	{api.Entry{Kind: api.Slot, N: 16}, 66},
	{api.Entry{Kind: api.Slot, N: 30}, 122},
	{api.Entry{Kind: api.Slot, N: 31}, 126},
	{api.Entry{Kind: api.Lost}, 3},
}

// all answers the entry of each number that is of one, by the chapter's words.
func all() map[uint64]api.Entry {
	m := map[uint64]api.Entry{0: {Kind: api.Nothing}, 3: {Kind: api.Lost}}
	for n := range 1024 {
		m[1+4*uint64(n)] = api.Entry{Kind: api.Frame, N: n}
		m[1+4*uint64(n)+writeBit] = api.Entry{Kind: api.Frame, N: n, Write: true}
	}
	for n := range 32 {
		m[2+4*uint64(n)] = api.Entry{Kind: api.Slot, N: n}
	}
	return m
}

// kinds are all that there are, and how many N each has.
var kinds = []struct{ kind, room int }{{api.Nothing, 1}, {api.Frame, 1024}, {api.Slot, 32}, {api.Lost, 1}}

// noKinds are kinds just beside those that there are, at the ends of int, and such as
// are one of them in the lowest bits alone.
func noKinds() []int {
	list := []int{-1, -2, -3, -4, -5, -255, 4, 5, 6, 7, 8, 9, 13, 126, 255, 1023, 1024, 4093,
		math.MinInt, math.MinInt + 1, math.MinInt + 2, math.MinInt + 3, math.MaxInt - 3, math.MaxInt - 2, math.MaxInt - 1, math.MaxInt}
	for kind := range 4 {
		for _, shift := range []int{8, 16, 32, 38, 40, 61, 62} {
			list = append(list, 1<<shift+kind, -1<<shift+kind)
		}
	}
	return list
}

// noNs are N that no kind has: at the ends of int, and such as are one that may be in
// the lowest bits alone, or when they are taken 4 times.
func noNs() []int {
	list := []int{-1, -2, -3, -4, -31, -32, -33, -1023, -1024, -1025, 1024, 1025, 2047, 2048,
		math.MinInt, math.MinInt + 1, math.MinInt + 1023, math.MaxInt - 1, math.MaxInt}
	for _, n := range []int{0, 1, 3, 31, 32, 1023} {
		for _, shift := range []int{10, 16, 30, 31, 32, 37, 38, 39, 40, 60, 61, 62} {
			list = append(list, 1<<shift+n, -1<<shift+n)
		}
	}
	return slices.DeleteFunc(list, func(n int) bool { return n >= 0 && n < 1024 })
}

// encode fails if Encode does not answer that.
func encode(t *testing.T, e api.Entry, want uint64, no api.Errno) {
	t.Helper()
	if v, got := Encode(e); v != want || got != no {
		t.Errorf("Encode(%+v): %d %d, want %d %d", e, v, got, want, no)
	}
}

// decode fails if Decode does not answer that.
func decode(t *testing.T, v uint64, want api.Entry, no api.Errno) {
	t.Helper()
	if e, got := Decode(v); e != want || got != no {
		t.Errorf("Decode(%d): %+v %d, want %+v %d", v, e, got, want, no)
	}
}

// refuse fails if Encode takes the entry. Beside the error there is a 0.
func refuse(t *testing.T, e api.Entry) {
	t.Helper()
	encode(t, e, 0, api.ErrForm)
}

// held fails if Decode does not answer of v what m says of it: an entry, or ErrForm
// and none.
func held(t *testing.T, m map[uint64]api.Entry, v uint64) {
	t.Helper()
	if e, ok := m[v]; ok {
		decode(t, v, e, api.OK)
		return
	}
	decode(t, v, api.Entry{}, api.ErrForm)
}

// P11.1: the chapter's example.
func TestExample(t *testing.T) {
	encode(t, api.Entry{Kind: api.Frame, N: 3}, 13, api.OK)
	decode(t, 13, api.Entry{Kind: api.Frame, N: 3}, api.OK)
}

// P11.1: known entries, as numbers and back, and the same once more.
func TestKnown(t *testing.T) {
	for range 2 {
		for _, k := range known {
			encode(t, k.e, k.v, api.OK)
			decode(t, k.v, k.e, api.OK)
		}
	}
}

// P11.1: each entry that may be, as a number and back; no two have the same one.
func TestEachEntry(t *testing.T) {
	m := all()
	if len(m) != 2+2*1024+32 {
		t.Fatalf("%d numbers", len(m))
	}
	for v, e := range m {
		encode(t, e, v, api.OK)
		decode(t, v, e, api.OK)
	}
}

// P11.1: a kind that there is not, with N and Write as they may be of one, and not.
func TestEncodeNoKind(t *testing.T) {
	for _, kind := range noKinds() {
		for _, n := range append(noNs(), 0, 1, 31, 32, 1023) {
			refuse(t, api.Entry{Kind: kind, N: n})
			refuse(t, api.Entry{Kind: kind, N: n, Write: true})
		}
	}
}

// P11.1: N of each kind: the first one and the last one may be, and none below 0 and
// beyond.
func TestEncodeEdgesOfN(t *testing.T) {
	for _, k := range kinds {
		encode(t, api.Entry{Kind: k.kind}, uint64(k.kind), api.OK)
		encode(t, api.Entry{Kind: k.kind, N: k.room - 1}, uint64(k.kind+4*(k.room-1)), api.OK)
		for _, n := range append(noNs(), k.room, k.room+1, k.room+2) {
			refuse(t, api.Entry{Kind: k.kind, N: n})
			refuse(t, api.Entry{Kind: k.kind, N: n, Write: true})
		}
	}
}

// P11.1: each N from below 0 to beyond the last frame, of each kind.
func TestEncodeEachN(t *testing.T) {
	for _, k := range kinds {
		for n := -70; n < 1100; n++ {
			if n >= 0 && n < k.room {
				encode(t, api.Entry{Kind: k.kind, N: n}, uint64(k.kind+4*n), api.OK)
			} else {
				refuse(t, api.Entry{Kind: k.kind, N: n})
			}
		}
	}
}

// P11.1: Write of a Frame alone, of each N.
func TestEncodeWrite(t *testing.T) {
	for _, k := range kinds {
		for n := range k.room {
			if k.kind == api.Frame {
				encode(t, api.Entry{Kind: k.kind, N: n, Write: true}, uint64(1+4*n)+writeBit, api.OK)
			} else {
				refuse(t, api.Entry{Kind: k.kind, N: n, Write: true})
			}
		}
	}
}

// P11.1: numbers that are of none, one by one: beside ErrForm there is no entry.
func TestDecodeNone(t *testing.T) {
	for _, v := range []uint64{
		4, 8, 12, 4092, // Nothing with an N
		7, 11, 15, 127, 4095, // Lost with an N
		4097, 4101, 8189, 1<<32 + 1, 1<<39 + 1, 1<<40 - 3, // a Frame that there is not
		130, 134, 254, 4094, 4098, 1<<32 + 2, 1<<39 + 2, 1<<40 - 2, // a Slot that there is not
		1 << 40, 1<<40 + 2, 1<<40 + 3, 1<<40 + 126, // Write, and no Frame
		1<<40 + 4, 1<<40 + 7, 1<<40 + 130, 1<<40 + 4097, 1<<41 - 3, // both
		1 << 41, 1<<41 + 1, 1<<41 + 2, 1<<41 + 3, 1<<41 + 13, 1<<41 + 126, // a bit that none has
		1<<41 + 1<<40, 1<<41 + 1<<40 + 1, 1<<63 + 1<<40 + 13, 1<<63 + 13, 1<<62 + 1,
		1 << 63, 1<<63 + 1, 1<<63 - 1, 1<<63 - 3, math.MaxUint64 - 3, math.MaxUint64 - 2, math.MaxUint64 - 1, math.MaxUint64,
	} {
		decode(t, v, api.Entry{}, api.ErrForm)
	}
}

// P11.1: all the numbers near those that are of an entry, with Write and without, and
// behind each bit that is above.
func TestDecodeRanges(t *testing.T) {
	m := all()
	for v := range uint64(3 * 4096) {
		held(t, m, v)
		held(t, m, writeBit-1-v)
		held(t, m, writeBit+v)
		held(t, m, math.MaxUint64-v)
		for bit := 12; bit < 64; bit++ {
			held(t, m, 1<<bit+v)
		}
	}
}

// P11.1: each number that is of an entry, with one bit or two of it the other way.
func TestDecodeOtherBits(t *testing.T) {
	m := all()
	for v := range m {
		for i := range 64 {
			for j := range i + 1 {
				held(t, m, v^(1<<i|1<<j))
			}
		}
	}
}

// P11.1: bits that stand in a row, alone.
func TestDecodeRowsOfBits(t *testing.T) {
	m := all()
	for low := range 64 {
		for high := low + 1; high <= 64; high++ {
			row := uint64(math.MaxUint64) >> (64 - high + low) << low
			for kind := range uint64(4) {
				held(t, m, row|kind)
			}
		}
	}
}

// P11.1: what Encode answers Decode takes, and what it refuses is of no number: of
// entries of any kind.
func TestEncodeThenDecode(t *testing.T) {
	taken := 0
	for _, kind := range append(noKinds(), 0, 1, 2, 3) {
		for n := -5; n < 1030; n++ {
			for _, write := range []bool{false, true} {
				e := api.Entry{Kind: kind, N: n, Write: write}
				v, no := Encode(e)
				if no == api.OK {
					taken++
					decode(t, v, e, api.OK)
				} else if v != 0 || no != api.ErrForm {
					t.Errorf("Encode(%+v): %d %d", e, v, no)
				}
			}
		}
	}
	if taken != len(all()) {
		t.Errorf("%d entries, want %d", taken, len(all()))
	}
}

// P11.1: what Decode answers Encode takes, and it is the same number.
func TestDecodeThenEncode(t *testing.T) {
	taken := 0
	for _, from := range []uint64{0, writeBit, 2 * writeBit, 3 * writeBit, 1 << 63} {
		for v := from; v < from+3*4096; v++ {
			e, no := Decode(v)
			if no == api.OK {
				taken++
				encode(t, e, v, api.OK)
			} else if e != (api.Entry{}) || no != api.ErrForm {
				t.Errorf("Decode(%d): %+v %d", v, e, no)
			}
		}
	}
	if taken != len(all()) {
		t.Errorf("%d numbers, want %d", taken, len(all()))
	}
}
