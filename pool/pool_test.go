package pool

import (
	"headland/api"
	"math"
	"slices"
	"strconv"
	"testing"
)

const (
	most = api.MaxFrames
	size = api.SectFrames
)

// zones are all zones, and used all uses that Alloc gives.
var (
	zones = []int{api.Normal, api.Movable}
	used  = []int{api.Table, api.Anon, api.Cache, api.Balloon}
)

// wide are numbers far beyond all ends.
func wide() []int {
	return []int{math.MinInt, math.MinInt + 1, -1 << 59, -1 << 32, -most, -size - 1, -size, -3, -2, -1,
		most, most + 1, 2 * most, 1 << 32, 1<<32 + 1, 1<<32 + 3, 1 << 58, 1 << 59, 1<<59 + 1, math.MaxInt - 1, math.MaxInt}
}

// others are numbers near those that there are, and wide ones, but none of these.
func others(these ...int) []int {
	list := append(wide(), span(0, 40)...)
	return slices.DeleteFunc(list, func(n int) bool { return slices.Contains(these, n) })
}

// noSects are numbers of sections that there are not.
func noSects() []int {
	return append(wide(), api.MaxSects, api.MaxSects+1, 63, 64, 992, 1023)
}

// span are the numbers from one on up to another.
func span(from, to int) []int {
	var list []int
	for f := from; f < to; f++ {
		list = append(list, f)
	}
	return list
}

// without are the numbers of a list but these.
func without(list []int, these ...int) []int {
	return slices.DeleteFunc(slices.Clone(list), func(f int) bool { return slices.Contains(these, f) })
}

// model is what a Pool must be, done by the words alone.
type model struct {
	uses     [most]int
	zones    [api.MaxSects]int
	isolated [api.MaxSects]int
}

func (m *model) online(sect, zone int, bad []int) api.Errno {
	if sect < 0 || sect > 31 || zone != api.Normal && zone != api.Movable {
		return api.ErrArg
	}
	if m.zones[sect] != api.Absent {
		return api.ErrThere
	}
	m.zones[sect] = zone
	for f := range m.uses {
		if f/size == sect && m.uses[f] != api.Bad {
			m.uses[f] = api.Free
			if slices.Contains(bad, f) {
				m.uses[f] = api.Bad
			}
		}
	}
	return api.OK
}

func (m *model) offline(sect int) api.Errno {
	if sect < 0 || sect > 31 {
		return api.ErrArg
	}
	if m.zones[sect] == api.Absent {
		return api.ErrNone
	}
	for f, use := range m.uses {
		if f/size == sect && use != api.Free && use != api.Bad {
			return api.ErrBusy
		}
	}
	for f, use := range m.uses {
		if f/size == sect && use != api.Bad {
			m.uses[f] = api.NoFrame
		}
	}
	m.zones[sect], m.isolated[sect] = api.Absent, 0
	return api.OK
}

// whole tells whether so many frames from first on are all Free, in a zone, and not
// isolated.
func (m *model) whole(first, count, zone int) bool {
	for f := first; f < first+count; f++ {
		if m.uses[f] != api.Free || m.zones[f/size] != zone || m.isolated[f/size] != 0 {
			return false
		}
	}
	return true
}

func (m *model) alloc(use, order int, movable bool) (int, api.Errno) {
	if !slices.Contains(used, use) || order < 0 || order > 5 {
		return 0, api.ErrArg
	}
	count := []int{1, 2, 4, 8, 16, 32}[order]
	for _, zone := range []int{api.Movable, api.Normal} {
		if zone == api.Movable && !movable {
			continue
		}
		for first := 0; first < most; first += count {
			if m.whole(first, count, zone) {
				for f := first; f < first+count; f++ {
					m.uses[f] = use
				}
				return first, api.OK
			}
		}
	}
	return 0, api.ErrFull
}

func (m *model) free(f int) bool {
	ok := f >= 0 && f < most && slices.Contains(used, m.uses[f])
	if ok {
		m.uses[f] = api.Free
	}
	return ok
}

func (m *model) spoil(f int) bool {
	ok := f >= 0 && f < most && m.uses[f] != api.Bad
	if ok {
		m.uses[f] = api.Bad
	}
	return ok
}

func (m *model) isolate(sect int, on bool) bool {
	ok := sect >= 0 && sect < 32 && m.zones[sect] != api.Absent
	if ok {
		m.isolated[sect] = 0
		if on {
			m.isolated[sect] = 1
		}
	}
	return ok
}

// pair is a Pool, and the model that it is held against: each call is done to both,
// and fails if they answer differently, or are not the same behind it.
type pair struct {
	t *testing.T
	p *Pool
	m model
}

func newPair(t *testing.T) *pair {
	x := &pair{t: t, p: New()}
	x.same("New")
	return x
}

// same fails if the Pool is not as the model is.
func (x *pair) same(what string) {
	x.t.Helper()
	var counts [api.MaxSects][7]int
	for f, use := range x.m.uses {
		counts[f/size][use]++
		if got := x.p.Use(f); got != use {
			x.t.Fatalf("%s: Use(%d): %d, want %d", what, f, got, use)
		}
	}
	for sect := range counts {
		if got := x.p.Zone(sect); got != x.m.zones[sect] {
			x.t.Fatalf("%s: Zone(%d): %d, want %d", what, sect, got, x.m.zones[sect])
		}
		for use, want := range counts[sect] {
			if got := x.p.Count(sect, use); got != want {
				x.t.Fatalf("%s: Count(%d, %d): %d, want %d", what, sect, use, got, want)
			}
		}
	}
}

// lends fails if Alloc does not give those frames one by one, in the order that the
// model does. It leaves all as it was.
func (x *pair) lends() {
	x.t.Helper()
	was := x.m
	for _, movable := range []bool{true, false} {
		var list []int
		for {
			f, e := x.alloc(api.Anon, 0, movable)
			if e != api.OK {
				break
			}
			list = append(list, f)
		}
		for _, f := range list {
			x.free(f)
		}
	}
	if x.m != was {
		x.t.Fatal("something is left")
	}
	x.same("all given, and freed")
}

func (x *pair) online(sect, zone int, bad ...int) api.Errno {
	x.t.Helper()
	got, want := x.p.Online(sect, zone, bad...), x.m.online(sect, zone, bad)
	what := "Online(" + strconv.Itoa(sect) + ", " + strconv.Itoa(zone) + ", ..)"
	if got != want {
		x.t.Fatalf("%s %v: %d, want %d", what, bad, got, want)
	}
	x.same(what)
	return got
}

func (x *pair) offline(sect int) api.Errno {
	x.t.Helper()
	got, want := x.p.Offline(sect), x.m.offline(sect)
	what := "Offline(" + strconv.Itoa(sect) + ")"
	if got != want {
		x.t.Fatalf("%s: %d, want %d", what, got, want)
	}
	x.same(what)
	return got
}

func (x *pair) alloc(use, order int, movable bool) (int, api.Errno) {
	x.t.Helper()
	got, e := x.p.Alloc(use, order, movable)
	want, e2 := x.m.alloc(use, order, movable)
	what := "Alloc(" + strconv.Itoa(use) + ", " + strconv.Itoa(order) + ", " + strconv.FormatBool(movable) + ")"
	if got != want || e != e2 {
		x.t.Fatalf("%s: %d %d, want %d %d", what, got, e, want, e2)
	}
	if e == api.OK && order == 0 {
		if x.p.Use(got) != use { // the whole is looked at where more may be changed
			x.t.Fatalf("%s: Use(%d): %d", what, got, x.p.Use(got))
		}
		return got, e
	}
	x.same(what)
	return got, e
}

func (x *pair) free(f int) bool {
	x.t.Helper()
	got, want := x.p.Free(f), x.m.free(f)
	if got != want {
		x.t.Fatalf("Free(%d): %v, want %v", f, got, want)
	}
	if f >= 0 && f < most && x.p.Use(f) != x.m.uses[f] {
		x.t.Fatalf("Free(%d): its use is %d", f, x.p.Use(f))
	}
	return got
}

func (x *pair) spoil(f int) bool {
	x.t.Helper()
	got, want := x.p.Spoil(f), x.m.spoil(f)
	if got != want {
		x.t.Fatalf("Spoil(%d): %v, want %v", f, got, want)
	}
	x.same("Spoil(" + strconv.Itoa(f) + ")")
	return got
}

func (x *pair) isolate(sect int, on bool) bool {
	x.t.Helper()
	got, want := x.p.Isolate(sect, on), x.m.isolate(sect, on)
	what := "Isolate(" + strconv.Itoa(sect) + ", " + strconv.FormatBool(on) + ")"
	if got != want {
		x.t.Fatalf("%s: %v, want %v", what, got, want)
	}
	x.same(what)
	return got
}

// has fails if a section is not in that zone, its frames have not that use, or those
// of them that differ have not theirs.
func has(t *testing.T, p *Pool, sect, zone, use int, differ map[int]int, what string) {
	t.Helper()
	if got := p.Zone(sect); got != zone {
		t.Fatalf("%s: Zone(%d): %d, want %d", what, sect, got, zone)
	}
	counts := map[int]int{}
	for f := sect * size; f < sect*size+size; f++ {
		want := use
		if u, ok := differ[f]; ok {
			want = u
		}
		counts[want]++
		if got := p.Use(f); got != want {
			t.Fatalf("%s: Use(%d): %d, want %d", what, f, got, want)
		}
	}
	for u := -1; u < 9; u++ {
		if got := p.Count(sect, u); got != counts[u] {
			t.Fatalf("%s: Count(%d, %d): %d, want %d", what, sect, u, got, counts[u])
		}
	}
}

// with is a Pool with sections on line: Normal ones, and Movable ones.
func with(t *testing.T, normal, movable []int) *Pool {
	t.Helper()
	p := New()
	for _, sect := range normal {
		if e := p.Online(sect, api.Normal); e != api.OK {
			t.Fatalf("Online(%d, Normal): %d", sect, e)
		}
	}
	for _, sect := range movable {
		if e := p.Online(sect, api.Movable); e != api.OK {
			t.Fatalf("Online(%d, Movable): %d", sect, e)
		}
	}
	return p
}

// alloc fails if Alloc does not answer that.
func alloc(t *testing.T, p *Pool, use, order int, movable bool, want int, e api.Errno) {
	t.Helper()
	if f, got := p.Alloc(use, order, movable); f != want || got != e {
		t.Fatalf("Alloc(%d, %d, %v): %d %d, want %d %d", use, order, movable, f, got, want, e)
	}
}

// gives fails if Alloc does not give these frames one by one, and then no more. It
// leaves all of them used.
func gives(t *testing.T, p *Pool, movable bool, want []int, what string) {
	t.Helper()
	var list []int
	for {
		f, e := p.Alloc(api.Anon, 0, movable)
		if e != api.OK {
			if e != api.ErrFull || f != 0 {
				t.Fatalf("%s: %d %d behind the last one", what, f, e)
			}
			break
		}
		list = append(list, f)
	}
	if !slices.Equal(list, want) {
		t.Fatalf("%s: given: %v, want %v", what, list, want)
	}
}

// P10.1, P10.2: the chapter's example.
func TestExample(t *testing.T) {
	p := New()
	if e := p.Online(0, api.Normal); e != api.OK {
		t.Error(e)
	}
	alloc(t, p, api.Anon, 0, true, 0, api.OK)
}

// P10.1: no section of a new pool is on line, and each frame is NoFrame: there is
// nothing to give, to free, or to isolate.
func TestNew(t *testing.T) {
	for _, p := range []*Pool{New(), new(Pool)} {
		for sect := range api.MaxSects {
			has(t, p, sect, api.Absent, api.NoFrame, nil, "New")
			if e := p.Offline(sect); e != api.ErrNone {
				t.Errorf("Offline(%d): %d", sect, e)
			}
			if p.Isolate(sect, true) || p.Isolate(sect, false) {
				t.Errorf("Isolate(%d)", sect)
			}
		}
		for f := range most {
			if p.Free(f) {
				t.Errorf("Free(%d)", f)
			}
		}
		for _, use := range used {
			for order := range 6 {
				alloc(t, p, use, order, true, 0, api.ErrFull)
				alloc(t, p, use, order, false, 0, api.ErrFull)
			}
		}
		for sect := range api.MaxSects {
			has(t, p, sect, api.Absent, api.NoFrame, nil, "New, later")
		}
	}
}

// P10.1: Zone and Use of sections and frames that there are not, with all on line
// and none.
func TestNoSectionAndNoFrame(t *testing.T) {
	for _, p := range []*Pool{New(), with(t, span(0, 32), nil), with(t, nil, span(0, 32))} {
		for _, sect := range noSects() {
			if z := p.Zone(sect); z != api.Absent {
				t.Errorf("Zone(%d): %d", sect, z)
			}
		}
		for _, f := range wide() {
			if u := p.Use(f); u != api.NoFrame {
				t.Errorf("Use(%d): %d", f, u)
			}
		}
	}
}

// P10.1: Online of each section, in each zone, with no bad frames: they are Free,
// and all other ones as they were.
func TestOnline(t *testing.T) {
	for _, zone := range zones {
		for sect := range api.MaxSects {
			p := New()
			if e := p.Online(sect, zone); e != api.OK {
				t.Fatalf("Online(%d, %d): %d", sect, zone, e)
			}
			for other := range api.MaxSects {
				if other == sect {
					has(t, p, sect, zone, api.Free, nil, "on line")
				} else {
					has(t, p, other, api.Absent, api.NoFrame, nil, "another one")
				}
			}
		}
	}
	p := with(t, []int{0, 31, 7}, []int{30, 1, 8})
	for _, sect := range []int{0, 7, 31} {
		has(t, p, sect, api.Normal, api.Free, nil, "one of six")
	}
	for _, sect := range []int{1, 8, 30} {
		has(t, p, sect, api.Movable, api.Free, nil, "one of six")
	}
	for _, sect := range []int{2, 6, 9, 29} {
		has(t, p, sect, api.Absent, api.NoFrame, nil, "none of six")
	}
}

// P10.1: Online with bad frames: one, many, all, the same one twice, in any order.
func TestOnlineWithBadFrames(t *testing.T) {
	for _, sect := range []int{0, 1, 17, 31} {
		from, to := sect*size, sect*size+size
		lists := [][]int{{}, {from, to - 1}, {to - 1, from}, {from + 5, from + 5}, {from + 9, from + 2, from + 9, from + 9, from + 31},
			span(from, to), slices.Repeat([]int{from + 3, to - 2}, 1<<12), span(from+1, to), span(from, to-1)}
		for f := from; f < to; f++ {
			lists = append(lists, []int{f}, []int{f, f, f})
		}
		for _, zone := range zones {
			for _, list := range lists {
				p, bad := New(), map[int]int{}
				for _, f := range list {
					bad[f] = api.Bad
				}
				if e := p.Online(sect, zone, list...); e != api.OK {
					t.Fatal(e)
				}
				has(t, p, sect, zone, api.Free, bad, "with bad frames")
				gives(t, p, true, slices.DeleteFunc(span(from, to), func(f int) bool { return bad[f] != 0 }), "with bad frames")
			}
		}
	}
}

// P10.1: bad frames that are not of the section make nothing bad, be they of one
// that is on line, of one that is not, or none at all; beside them, those that are of
// it are bad.
func TestOnlineWithBadFramesOfOthers(t *testing.T) {
	wrong := append(wide(), 0, 5, 31, 64, 95, 96, 100, 127, 128, 959, 992, 1023, 1<<32+40, 40-1<<32)
	for _, list := range [][]int{wrong, append(slices.Clone(wrong), 32, 40, 63), append([]int{63, 40, 32}, wrong...)} {
		p := with(t, []int{0}, []int{3})
		alloc(t, p, api.Cache, 5, true, 96, api.OK)
		if e := p.Online(1, api.Normal, list...); e != api.OK {
			t.Fatal(e)
		}
		bad := map[int]int{}
		if len(list) > len(wrong) {
			bad = map[int]int{32: api.Bad, 40: api.Bad, 63: api.Bad}
		}
		has(t, p, 1, api.Normal, api.Free, bad, "the section")
		has(t, p, 0, api.Normal, api.Free, nil, "one that is on line")
		has(t, p, 3, api.Movable, api.Cache, nil, "one that is used")
		for _, sect := range []int{2, 4, 30, 31} {
			has(t, p, sect, api.Absent, api.NoFrame, nil, "one that is not on line")
		}
		if e := p.Online(2, api.Movable); e != api.OK {
			t.Fatal(e)
		}
		has(t, p, 2, api.Movable, api.Free, nil, "one that comes later")
	}
}

// P10.1: frames that are Bad already stay so when their section comes on line, named
// once more or not, and others that are named are so too.
func TestOnlineWithFramesThatAreBad(t *testing.T) {
	for _, list := range [][]int{nil, {70}, {64, 70, 95}, {66}, {95, 66}} {
		p := New()
		bad := map[int]int{64: api.Bad, 70: api.Bad, 95: api.Bad}
		for f := range bad {
			if !p.Spoil(f) {
				t.Fatal(f)
			}
		}
		has(t, p, 2, api.Absent, api.NoFrame, bad, "off line")
		for _, f := range list {
			bad[f] = api.Bad
		}
		if e := p.Online(2, api.Movable, list...); e != api.OK {
			t.Fatal(e)
		}
		has(t, p, 2, api.Movable, api.Free, bad, "on line")
	}
}

// P10.1: Online of what there is not, in no zone, and of what is on line: why, which
// of two errors, and nothing is changed.
func TestOnlineIsRefused(t *testing.T) {
	x := newPair(t)
	x.online(3, api.Normal, 100)
	x.online(4, api.Movable)
	x.alloc(api.Table, 2, false)
	x.isolate(4, true)
	is := func(sect, zone int, want api.Errno) {
		t.Helper()
		bad := []int{sect * size, 96, 97, 127, 128, 130, 159, 160, 200}
		if e := x.online(sect, zone, bad...); e != want {
			t.Errorf("Online(%d, %d): %d, want %d", sect, zone, e, want)
		}
	}
	for _, sect := range noSects() {
		for _, zone := range append(others(), zones...) {
			is(sect, zone, api.ErrArg)
		}
	}
	for _, zone := range others(zones...) {
		is(5, zone, api.ErrArg)
		is(3, zone, api.ErrArg)
		is(4, zone, api.ErrArg)
	}
	for _, zone := range zones {
		is(3, zone, api.ErrThere)
		is(4, zone, api.ErrThere)
	}
	x.lends()
}

// P10.1: Offline of a section with all frames Free, with some Bad, and with all so:
// they are NoFrame, but for Bad ones.
func TestOffline(t *testing.T) {
	for _, zone := range zones {
		for _, bad := range [][]int{nil, {64}, {95}, {64, 70, 71, 95}, span(64, 95), span(64, 96)} {
			p := with(t, []int{1}, []int{3})
			differ := map[int]int{}
			for _, f := range bad {
				differ[f] = api.Bad
			}
			for range 3 {
				if e := p.Online(2, zone, bad...); e != api.OK {
					t.Fatal(e)
				}
				has(t, p, 2, zone, api.Free, differ, "on line")
				if e := p.Offline(2); e != api.OK {
					t.Fatal(e)
				}
				has(t, p, 2, api.Absent, api.NoFrame, differ, "off line")
				if e := p.Offline(2); e != api.ErrNone {
					t.Fatal(e)
				}
				has(t, p, 2, api.Absent, api.NoFrame, differ, "off line still")
			}
			has(t, p, 1, api.Normal, api.Free, nil, "another one")
			has(t, p, 3, api.Movable, api.Free, nil, "another one")
			gives(t, p, true, append(span(96, 128), span(32, 64)...), "of the other ones alone")
		}
	}
}

// P10.1: Offline of a section that there is not, and of one that is not on line.
func TestOfflineIsRefused(t *testing.T) {
	x := newPair(t)
	x.online(0, api.Normal)
	x.online(31, api.Movable)
	x.spoil(40)
	for _, sect := range noSects() {
		if e := x.offline(sect); e != api.ErrArg {
			t.Errorf("Offline(%d): %d", sect, e)
		}
	}
	for sect := 1; sect < 31; sect++ {
		if e := x.offline(sect); e != api.ErrNone {
			t.Errorf("Offline(%d): %d", sect, e)
		}
	}
}

// P10.1: Offline of a section with one frame that has each use, at each place: it is
// on line as ever, and goes off line once it is Free, or Bad.
func TestOfflineOfUsed(t *testing.T) {
	for _, zone := range zones {
		for _, use := range used {
			for f := 64; f < 96; f++ {
				p := New()
				p.Online(2, zone, 80)
				want := map[int]int{80: api.Bad, f: use}
				for g := 64; g < 96; g++ {
					p.Alloc(use, 0, true)
				}
				for g := 64; g < 96; g++ {
					if g != f {
						p.Free(g)
					}
				}
				if f == 80 {
					want[f] = api.Bad
				}
				has(t, p, 2, zone, api.Free, want, "one is used")
				e := p.Offline(2)
				if f == 80 {
					if e != api.OK {
						t.Fatalf("frame %d is bad: %d", f, e)
					}
					continue
				}
				if e != api.ErrBusy {
					t.Fatalf("frame %d has use %d: %d", f, use, e)
				}
				has(t, p, 2, zone, api.Free, want, "refused")
				last := map[int]int{80: api.Bad}
				if f%2 == 0 {
					p.Free(f)
				} else {
					p.Spoil(f)
					last[f] = api.Bad
				}
				if e := p.Offline(2); e != api.OK {
					t.Fatalf("frame %d is used no more: %d", f, e)
				}
				has(t, p, 2, api.Absent, api.NoFrame, last, "off line")
			}
		}
	}
}

// P10.1: frames of other sections that are used keep none from going off line, those
// next to it neither.
func TestOfflineBesideUsed(t *testing.T) {
	p := with(t, []int{1, 2, 3}, nil)
	alloc(t, p, api.Table, 5, false, 32, api.OK)
	alloc(t, p, api.Anon, 5, false, 64, api.OK)
	alloc(t, p, api.Anon, 5, false, 96, api.OK)
	for f := 64; f < 96; f++ {
		p.Free(f)
	}
	if e := p.Offline(2); e != api.OK {
		t.Fatal(e)
	}
	has(t, p, 2, api.Absent, api.NoFrame, nil, "off line")
	has(t, p, 1, api.Normal, api.Table, nil, "the one ahead")
	has(t, p, 3, api.Normal, api.Anon, nil, "the one behind")
}

// P10.1: a section that was isolated goes off line, and is not isolated when it comes
// again, in the same zone or in the other one; one that was refused is isolated
// still.
func TestOfflineOfIsolated(t *testing.T) {
	for _, zone := range zones {
		p := with(t, nil, []int{2})
		alloc(t, p, api.Anon, 0, true, 64, api.OK)
		p.Isolate(2, true)
		if e := p.Offline(2); e != api.ErrBusy {
			t.Fatal(e)
		}
		alloc(t, p, api.Anon, 0, true, 0, api.ErrFull)
		p.Free(64)
		if e := p.Offline(2); e != api.OK {
			t.Fatal(e)
		}
		if e := p.Online(2, zone, 65); e != api.OK {
			t.Fatal(e)
		}
		gives(t, p, true, without(span(64, 96), 65), "on line again")
	}
}

// P10.2: Alloc of each use, and of what is none, of each order, and of what is none,
// movable and not: ErrArg ahead of ErrFull.
func TestAllocUsesAndOrders(t *testing.T) {
	orders := append(others(span(0, 6)...), span(0, 6)...)
	for _, sects := range [][2][]int{{{}, {}}, {{3}, {}}, {{}, {2}}, {{3}, {2}}} {
		x := newPair(t)
		for _, sect := range sects[0] {
			x.online(sect, api.Normal)
		}
		for _, sect := range sects[1] {
			x.online(sect, api.Movable)
		}
		for _, use := range append(others(used...), used...) {
			for _, order := range orders {
				for _, movable := range []bool{true, false} {
					f, e := x.alloc(use, order, movable)
					want := api.OK
					if len(sects[0]) == 0 && (len(sects[1]) == 0 || !movable) {
						want = api.ErrFull
					}
					if !slices.Contains(used, use) || order < 0 || order > 5 {
						want = api.ErrArg
					}
					if e != want {
						t.Fatalf("Alloc(%d, %d, %v): %d, want %d", use, order, movable, e, want)
					}
					for e == api.OK && x.p.Use(f) == use {
						x.free(f)
						f++
					}
				}
			}
		}
	}
}

// P10.2: the frames of a run have that use, all of them and no others; each of them
// may be given alone.
func TestAllocGivesAll(t *testing.T) {
	for order := range 6 {
		for _, use := range used {
			p := with(t, []int{2}, nil)
			count, differ := 1<<order, map[int]int{}
			for first := 64; first < 96; first += count {
				alloc(t, p, use, order, false, first, api.OK)
				for f := first; f < first+count; f++ {
					differ[f] = use
				}
				has(t, p, 2, api.Normal, api.Free, differ, "one more")
			}
			alloc(t, p, use, order, false, 0, api.ErrFull)
			alloc(t, p, use, order, true, 0, api.ErrFull)
			has(t, p, 2, api.Normal, use, nil, "all")
		}
	}
}

// P10.2: movable, Movable sections first, rising, then Normal ones, whichever way
// round they stand and came; not movable, Normal ones alone.
func TestAllocOrderOfZones(t *testing.T) {
	for _, c := range []struct{ normal, movable []int }{
		{[]int{0}, []int{1}}, {[]int{1}, []int{0}}, {[]int{0, 31}, []int{5}}, {[]int{5}, []int{31, 0}},
		{[]int{9, 2}, []int{10, 1}}, {[]int{10, 1}, []int{9, 2}}, {[]int{4}, nil}, {nil, []int{4}}, {nil, []int{30, 6}}, {nil, nil},
	} {
		var rising [2][]int
		for i, list := range [][]int{c.normal, c.movable} {
			for _, sect := range slices.Sorted(slices.Values(list)) {
				rising[i] = append(rising[i], span(sect*size, sect*size+size)...)
			}
		}
		gives(t, with(t, c.normal, c.movable), true, append(slices.Clone(rising[1]), rising[0]...), "movable")
		p := with(t, c.normal, c.movable)
		gives(t, p, false, rising[0], "not movable")
		gives(t, p, true, rising[1], "movable, behind what is not")
		for order := range 6 {
			p := with(t, c.normal, c.movable)
			for _, list := range [][]int{rising[1], rising[0]} {
				for i := 0; i < len(list); i += 1 << order {
					alloc(t, p, api.Cache, order, true, list[i], api.OK)
				}
			}
			alloc(t, p, api.Cache, order, true, 0, api.ErrFull)
		}
	}
}

// P10.2: a run that the Movable sections have not is one of the Normal ones, though
// smaller ones are in the Movable ones still.
func TestAllocRunOfTheOtherZone(t *testing.T) {
	p := with(t, []int{7}, []int{1})
	alloc(t, p, api.Anon, 0, true, 32, api.OK)
	alloc(t, p, api.Anon, 5, true, 224, api.OK)
	alloc(t, p, api.Anon, 5, true, 0, api.ErrFull)
	alloc(t, p, api.Anon, 4, true, 48, api.OK)
	alloc(t, p, api.Anon, 4, true, 0, api.ErrFull)
	alloc(t, p, api.Anon, 3, false, 0, api.ErrFull)
	alloc(t, p, api.Anon, 3, true, 40, api.OK)
	p.Free(224)
	alloc(t, p, api.Anon, 0, true, 33, api.OK)
	alloc(t, p, api.Anon, 0, false, 224, api.OK)
}

// P10.2: a run is at a multiple of its length: one that is just not whole, by a frame
// at any place that is used, Bad or freed again, is no run, or is one again.
func TestAllocRunNotWhole(t *testing.T) {
	for order := range 6 {
		count := 1 << order
		for place := range count {
			for _, spoil := range []bool{true, false} {
				p := with(t, []int{2, 3}, nil)
				alloc(t, p, api.Table, 5, false, 64, api.OK)
				for f := 64; f < 96; f++ {
					if f != 64+place {
						p.Free(f)
					}
				}
				if spoil {
					p.Spoil(64 + place)
				}
				next := 64 + count
				alloc(t, p, api.Cache, order, false, next, api.OK)
				if !spoil {
					p.Free(64 + place)
					alloc(t, p, api.Cache, order, true, 64, api.OK)
				} else if p.Use(64+place) != api.Bad {
					t.Fatalf("frame %d: %d", 64+place, p.Use(64+place))
				}
			}
		}
	}
}

// P10.2: as many frames as asked for, side by side, but from no multiple on: no run.
func TestAllocNoMultiple(t *testing.T) {
	for order := 1; order < 5; order++ {
		count := 1 << order
		for shift := 1; shift < count && shift+count <= size; shift++ {
			p := with(t, nil, []int{0})
			alloc(t, p, api.Anon, 5, true, 0, api.OK)
			for f := shift; f < shift+count; f++ {
				p.Free(f)
			}
			alloc(t, p, api.Anon, order, true, 0, api.ErrFull)
			p.Free(count + shift)
			for f := count + shift; f < 2*count; f++ {
				p.Free(f)
			}
			alloc(t, p, api.Anon, order, true, count, api.OK)
		}
	}
}

// P10.2: what is isolated is not given, and is so again when it is not isolated any
// more; twice on, and twice off, is once. What is freed there is Free, and is not
// given either.
func TestIsolate(t *testing.T) {
	for _, zone := range zones {
		p := New()
		for _, sect := range []int{3, 4, 5} {
			p.Online(sect, zone)
		}
		alloc(t, p, api.Anon, 5, true, 96, api.OK)
		alloc(t, p, api.Anon, 1, true, 128, api.OK)
		for range 2 {
			if !p.Isolate(3, true) || !p.Isolate(4, true) {
				t.Fatal("Isolate on")
			}
		}
		has(t, p, 4, zone, api.Free, map[int]int{128: api.Anon, 129: api.Anon}, "isolated")
		if !p.Free(128) || !p.Free(96) || !p.Free(127) {
			t.Fatal("Free of what is isolated")
		}
		has(t, p, 4, zone, api.Free, map[int]int{129: api.Anon}, "freed")
		alloc(t, p, api.Anon, 0, true, 160, api.OK)
		alloc(t, p, api.Anon, 4, true, 176, api.OK)
		alloc(t, p, api.Anon, 4, true, 0, api.ErrFull)
		if !p.Isolate(3, false) {
			t.Fatal("Isolate off")
		}
		alloc(t, p, api.Anon, 0, true, 96, api.OK)
		alloc(t, p, api.Anon, 0, true, 127, api.OK)
		alloc(t, p, api.Anon, 4, true, 0, api.ErrFull)
		for range 2 {
			if !p.Isolate(4, false) {
				t.Fatal("Isolate off")
			}
		}
		alloc(t, p, api.Anon, 4, true, 144, api.OK)
		alloc(t, p, api.Anon, 0, true, 128, api.OK)
	}
}

// P10.2: Movable sections that are all isolated: Normal ones are next; and none, if
// those are too.
func TestIsolateZones(t *testing.T) {
	p := with(t, []int{9}, []int{2, 3})
	p.Isolate(2, true)
	alloc(t, p, api.Anon, 0, true, 96, api.OK)
	p.Isolate(3, true)
	alloc(t, p, api.Anon, 0, true, 288, api.OK)
	alloc(t, p, api.Table, 0, false, 289, api.OK)
	p.Isolate(9, true)
	alloc(t, p, api.Anon, 0, true, 0, api.ErrFull)
	alloc(t, p, api.Table, 0, false, 0, api.ErrFull)
	p.Isolate(2, false)
	alloc(t, p, api.Table, 0, false, 0, api.ErrFull)
	alloc(t, p, api.Anon, 0, true, 64, api.OK)
}

// P10.2: Isolate of a section that is not on line, and of one that there is not:
// false, on and off, and nothing is isolated behind it.
func TestIsolateIsRefused(t *testing.T) {
	p := with(t, []int{0}, []int{31})
	for _, sect := range append(noSects(), span(1, 31)...) {
		for _, on := range []bool{true, false, true} {
			if p.Isolate(sect, on) {
				t.Errorf("Isolate(%d, %v)", sect, on)
			}
		}
	}
	for sect := 1; sect < 31; sect++ {
		if e := p.Online(sect, api.Movable); e != api.OK {
			t.Fatal(e)
		}
	}
	gives(t, p, true, append(span(32, 1024), span(0, 32)...), "nothing is isolated")
}

// P10.2: Free of frames of each use: of those from Table to Balloon, once; of a Free
// one, a Bad one, one of a section that is off line, and what is no frame: false.
func TestFree(t *testing.T) {
	x := newPair(t)
	x.online(1, api.Normal, 40)
	x.online(31, api.Movable)
	x.online(6, api.Movable)
	x.spoil(7)
	x.offline(6)
	x.alloc(api.Balloon, 5, true)
	for i, use := range used {
		f, _ := x.alloc(use, 1, false)
		if f != 32+2*i {
			t.Fatalf("use %d: %d", use, f)
		}
	}
	for f, want := range map[int]bool{32: true, 33: true, 34: true, 35: true, 36: true, 37: true, 38: true, 39: true, 40: false, 41: false,
		63: false, 992: true, 1007: true, 1023: true, 0: false, 7: false, 31: false, 64: false, 192: false, 223: false, 991: false} {
		if x.free(f) != want {
			t.Errorf("Free(%d): %v", f, !want)
		}
		if x.free(f) {
			t.Errorf("Free(%d), once more", f)
		}
		x.same("Free")
	}
	for _, f := range wide() {
		if x.free(f) {
			t.Errorf("Free(%d)", f)
		}
		x.same("Free")
	}
	x.lends()
}

// P10.2: Spoil of frames of each use, of Free ones, of those of a section that is off
// line, or isolated: once; and of what is no frame: never. What is Bad is not given,
// not freed, and stays so.
func TestSpoil(t *testing.T) {
	x := newPair(t)
	x.online(1, api.Normal, 40)
	x.online(31, api.Movable)
	x.online(6, api.Movable)
	for i, use := range used {
		f, _ := x.alloc(use, 1, false)
		if f != 32+2*i {
			t.Fatalf("use %d: %d", use, f)
		}
	}
	x.isolate(31, true)
	for f, want := range map[int]bool{32: true, 34: true, 37: true, 39: true, 40: false, 41: true, 63: true, 0: true, 31: true, 64: true,
		200: true, 992: true, 1023: true, 991: true} {
		if x.spoil(f) != want || x.spoil(f) || x.free(f) {
			t.Errorf("Spoil(%d): not %v, and then false", f, want)
		}
		if x.p.Use(f) != api.Bad {
			t.Errorf("Use(%d): %d", f, x.p.Use(f))
		}
	}
	for _, f := range wide() {
		if x.spoil(f) {
			t.Errorf("Spoil(%d)", f)
		}
	}
	x.lends()
	x.isolate(31, false)
	x.lends()
	for _, sect := range []int{31, 6} {
		if e := x.offline(sect); e != api.OK {
			t.Errorf("Offline(%d): %d", sect, e)
		}
	}
	for _, sect := range []int{0, 2, 6, 30, 31} {
		if e := x.online(sect, api.Movable); e != api.OK {
			t.Errorf("Online(%d): %d", sect, e)
		}
	}
	if n := x.p.Count(31, api.Bad); n != 2 {
		t.Errorf("Count(31, Bad): %d", n)
	}
	x.lends()
}

// P10.2: Count of each use, in sections that are on line and that are not, of uses
// that are none, and of sections that there are not.
func TestCount(t *testing.T) {
	p := with(t, []int{4}, nil)
	for i, use := range used {
		alloc(t, p, use, i, false, []int{128, 130, 132, 136}[i], api.OK)
	}
	p.Spoil(129)
	p.Spoil(136)
	p.Spoil(5)
	for _, c := range []struct{ sect, use, want int }{
		{4, api.NoFrame, 0}, {4, api.Free, 16}, {4, api.Table, 1}, {4, api.Anon, 2}, {4, api.Cache, 4}, {4, api.Balloon, 7}, {4, api.Bad, 2},
		{0, api.NoFrame, 31}, {0, api.Bad, 1}, {0, api.Free, 0}, {31, api.NoFrame, 32}, {31, api.Bad, 0}, {3, api.NoFrame, 32}, {5, api.NoFrame, 32},
	} {
		if n := p.Count(c.sect, c.use); n != c.want {
			t.Errorf("%+v: %d", c, n)
		}
	}
	for _, use := range others(span(0, 7)...) {
		for _, sect := range append(noSects(), 0, 4, 31) {
			if n := p.Count(sect, use); n != 0 {
				t.Errorf("Count(%d, %d): %d", sect, use, n)
			}
		}
	}
	for _, sect := range noSects() {
		for use := range 7 {
			if n := p.Count(sect, use); n != 0 {
				t.Errorf("Count(%d, %d): %d", sect, use, n)
			}
		}
	}
}

// P10.1, P10.2: a nil Pool, in each call: ErrArg, 0, false, whatever it is given.
func TestNilPool(t *testing.T) {
	var p *Pool
	for _, n := range append(wide(), span(0, 40)...) {
		for _, m := range append(wide(), span(0, 8)...) {
			if e := p.Online(n, m, 0, 1, m, n); e != api.ErrArg {
				t.Fatalf("Online(%d, %d): %d", n, m, e)
			}
			alloc(t, p, n, m, true, 0, api.ErrArg)
			alloc(t, p, n, m, false, 0, api.ErrArg)
			if c := p.Count(n, m); c != 0 {
				t.Fatalf("Count(%d, %d): %d", n, m, c)
			}
		}
		if e := p.Offline(n); e != api.ErrArg {
			t.Fatalf("Offline(%d): %d", n, e)
		}
		if p.Zone(n) != 0 || p.Use(n) != 0 || p.Free(n) || p.Spoil(n) || p.Isolate(n, true) || p.Isolate(n, false) {
			t.Fatalf("something of %d", n)
		}
	}
	if e := p.Online(0, api.Normal); e != api.ErrArg {
		t.Error(e)
	}
}

// R4: the bad frames that are handed in are not changed, their spare room neither,
// and not kept.
func TestNothingHandedInIsKept(t *testing.T) {
	whole := []int{66, -1, 64, 66, 3, 70, 71, 95}
	was := slices.Clone(whole)
	p := New()
	p.Online(2, api.Movable, whole[:5]...)
	if !slices.Equal(whole, was) {
		t.Errorf("what was handed in is changed: %v", whole)
	}
	copy(whole, []int{80, 81, 82, 83, 84, 85, 86, 87})
	has(t, p, 2, api.Movable, api.Free, map[int]int{64: api.Bad, 66: api.Bad}, "what was handed in is changed")
}

// R5: two pools have nothing of each other.
func TestTwoPools(t *testing.T) {
	one, two := with(t, []int{0}, nil), with(t, nil, []int{1})
	alloc(t, one, api.Table, 1, false, 0, api.OK)
	two.Spoil(40)
	two.Isolate(1, true)
	has(t, one, 0, api.Normal, api.Free, map[int]int{0: api.Table, 1: api.Table}, "one")
	has(t, one, 1, api.Absent, api.NoFrame, nil, "one")
	has(t, two, 0, api.Absent, api.NoFrame, nil, "the other one")
	has(t, two, 1, api.Movable, api.Free, map[int]int{40: api.Bad}, "the other one")
	one.Online(1, api.Normal)
	gives(t, one, true, span(2, 64), "one")
	has(t, New(), 0, api.Absent, api.NoFrame, nil, "a later one")
}

// numbers answers a function that answers numbers below what it is given, the same
// ones for the same seed.
func numbers(seed uint64) func(n int) int {
	return func(n int) int {
		seed = seed*6364136223846793005 + 1442695040888963407
		return int((seed >> 33) % uint64(n))
	}
}

// anyCall does one call, right or wrong, to sections below sects and their frames
// above all.
func anyCall(x *pair, next func(int) int, sects int) {
	sect, f := next(sects+2)-1, next(sects*size+4)-2
	switch next(12) {
	case 0, 1:
		var bad []int
		for range next(4) {
			bad = append(bad, sect*size+next(size+8)-4)
		}
		x.online(sect, next(3)+1, bad...)
	case 2, 3:
		x.offline(sect)
	case 4, 5, 6:
		x.alloc(next(7), next(8)-1, next(3) != 0)
	case 7:
		x.alloc(used[next(4)], 0, next(2) == 0)
	case 8, 9:
		for g := f; g < f+next(48); g++ {
			x.free(g)
		}
	case 10:
		if next(16) == 0 {
			x.spoil(f)
		}
	case 11:
		x.isolate(sect, next(3) == 0)
	}
}

// P10.1, P10.2: many calls in a row, right and wrong ones, held against the words of
// the chapter alone.
func TestManyCalls(t *testing.T) {
	for seed, sects := range []int{1, 1, 1, 1, 2, 2, 2, 2, 3, 3, 3, 4, 5, 8, 32, 32} {
		x, next := newPair(t), numbers(uint64(seed)+10)
		for i := range 1500 {
			anyCall(x, next, sects)
			if i%250 == 249 {
				x.lends()
			}
		}
	}
}

// R5: the same calls, done again from the beginning, have the same answers.
func TestTheSameAgain(t *testing.T) {
	one, two := newPair(t), newPair(t)
	a, b := numbers(3), numbers(3)
	for range 2000 {
		anyCall(one, a, 4)
		anyCall(two, b, 4)
		if *one.p != *two.p {
			t.Fatal("two pools differ")
		}
	}
}
