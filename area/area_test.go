package area

import (
	"cmp"
	"headland/api"
	"math"
	"slices"
	"strconv"
	"testing"
)

// page is a page of a list, as the model knows it: of which area it is, and what that
// area says of it. Off is the page of the file.
type page struct {
	at, piece int
	write     bool
	kind      int
	file, off int
}

// model is what a list must be, done by the words alone: page by page.
type model []page

// modelOf is a list as its pages.
func modelOf(list []api.Area) model {
	var m model
	for i, a := range list {
		for n := range a.Pages {
			p := page{at: a.From + n, piece: i, write: a.Write, kind: a.Kind, file: a.File}
			if a.Kind != api.Own {
				p.off = a.Off + n
			}
			m = append(m, p)
		}
	}
	slices.SortFunc(m, func(p, q page) int { return cmp.Compare(p.at, q.at) })
	return m
}

// areas are the areas that pages make: those of one piece that stand in a row.
func (m model) areas() []api.Area {
	var list []api.Area
	for i, p := range m {
		if i > 0 && m[i-1].piece == p.piece && m[i-1].at == p.at-1 {
			list[len(list)-1].Pages++
			continue
		}
		list = append(list, api.Area{From: p.at, Pages: 1, Write: p.write, Kind: p.kind, File: p.file, Off: p.off})
	}
	return list
}

// some tells whether there is a page of these.
func (m model) some(from, pages int) bool {
	return slices.ContainsFunc(m, func(p page) bool { return p.at >= from && p.at < from+pages })
}

// row tells whether there are such pages: beyond the last page each alone is too much,
// so that nothing is added up that is great.
func row(from, pages, limit int) bool {
	return from >= 0 && pages >= 1 && from <= limit && pages <= limit && from+pages <= limit
}

func soundModel(a api.Area) bool {
	switch a.Kind {
	case 1:
		return row(a.From, a.Pages, 4096) && a.File == 0 && a.Off == 0
	case 2, 3:
		return row(a.From, a.Pages, 4096) && a.File >= 0 && a.File <= 3 && row(a.Off, a.Pages, 16)
	}
	return false
}

func findModel(list []api.Area, at int) (api.Area, bool) {
	for _, p := range modelOf(list) {
		if p.at == at {
			return list[p.piece], true
		}
	}
	return api.Area{}, false
}

func addModel(list []api.Area, a api.Area) ([]api.Area, api.Errno) {
	if !soundModel(a) {
		return nil, api.ErrArg
	}
	if modelOf(list).some(a.From, a.Pages) {
		return nil, api.ErrThere
	}
	if len(list) >= 16 {
		return nil, api.ErrFull
	}
	return modelOf(append(slices.Clone(list), a)).areas(), api.OK
}

// atMost answers what pages make, if that is not too many areas.
func atMost(m model) ([]api.Area, api.Errno) {
	if list := m.areas(); len(list) <= 16 {
		return list, api.OK
	}
	return nil, api.ErrFull
}

func cutModel(list []api.Area, from, pages int) ([]api.Area, api.Errno) {
	if !row(from, pages, 4096) {
		return nil, api.ErrArg
	}
	return atMost(slices.DeleteFunc(modelOf(list), func(p page) bool { return p.at >= from && p.at < from+pages }))
}

func protectModel(list []api.Area, from, pages int, write bool) ([]api.Area, api.Errno) {
	if !row(from, pages, 4096) {
		return nil, api.ErrArg
	}
	m := modelOf(list)
	if !m.some(from, pages) {
		return nil, api.ErrNone
	}
	for i, p := range m {
		if p.at >= from && p.at < from+pages {
			m[i].write = write
			m[i].piece = len(list) + p.piece // none of those ahead of these pages, or behind
		}
	}
	return atMost(m)
}

// ends are numbers at the edges that there are, beyond these, below 0, and at the ends
// of int; some are another one in their lowest bits alone.
func ends() []int {
	return []int{math.MinInt, math.MinInt + 1, math.MinInt + 4096, -1 << 32, -1<<32 + 1, math.MinInt32, -4097, -4096, -4095,
		-17, -16, -2, -1, 0, 1, 2, 3, 4, 5, 8, 15, 16, 17, 31, 255, 256, 4079, 4080, 4081, 4094, 4095, 4096, 4097,
		1 << 16, 1<<31 - 1, 1 << 31, 1<<32 - 1, 1 << 32, 1<<32 + 1, 1<<32 + 4095, 1 << 62,
		math.MaxInt - 4096, math.MaxInt - 4095, math.MaxInt - 1, math.MaxInt}
}

// own is an area of its own bytes, which may be written; shared and private are ones of
// a file, which may not.
func own(from, pages int) api.Area {
	return api.Area{From: from, Pages: pages, Write: true, Kind: api.Own}
}

func shared(from, pages, file, off int) api.Area {
	return api.Area{From: from, Pages: pages, Kind: api.Shared, File: file, Off: off}
}

func private(from, pages, file, off int) api.Area {
	return api.Area{From: from, Pages: pages, Kind: api.Private, File: file, Off: off}
}

// with is an area that may be written, or may not.
func with(a api.Area, write bool) api.Area {
	a.Write = write
	return a
}

// mixed are areas of all kinds: with gaps between them, and without; of one page and
// more; at the first page, and at the last.
func mixed() []api.Area {
	return []api.Area{own(0, 3), shared(3, 1, 3, 15), private(4, 6, 0, 2), with(shared(12, 16, 1, 0), true), own(40, 1),
		with(private(41, 3, 1, 13), true), private(44, 2, 1, 0), with(own(100, 1000), false), own(4090, 5), private(4095, 1, 3, 0)}
}

// many are n areas of pages pages each, of a kind and with a gap of one page ahead of
// each; of Own ones with more of them than a file has.
func many(n, pages, kind int) []api.Area {
	var list []api.Area
	for i := range n {
		a := api.Area{From: i*(pages+1) + 1, Pages: pages, Write: i%2 == 0, Kind: kind}
		if kind != api.Own {
			a.File, a.Off = i%api.MaxFiles, i%(17-pages)
		}
		list = append(list, a)
	}
	return list
}

// roomy is a list with spare room, which tells by left whether anybody wrote there.
func roomy(list []api.Area) (given []api.Area, left func() bool) {
	mark := api.Area{From: -7, Pages: -7, Write: true, Kind: -7, File: -7, Off: -7}
	room := slices.Repeat([]api.Area{mark}, len(list)+20)
	copy(room, list)
	given = room[:len(list)]
	return given, func() bool {
		return slices.Equal(given, list) && !slices.ContainsFunc(room[len(list):], func(a api.Area) bool { return a != mark })
	}
}

// told is a call as text.
func told(call string, numbers ...int) string {
	for _, n := range numbers {
		call += " " + strconv.Itoa(n)
	}
	return call
}

// toldOf is a call with an area as text.
func toldOf(call string, a api.Area) string {
	if a.Write {
		call += " to write"
	}
	return told(call, a.From, a.Pages, a.Kind, a.File, a.Off)
}

// same fails if a call did not answer what is wanted.
func same(t *testing.T, got []api.Area, e api.Errno, want []api.Area, wantE api.Errno, what string) {
	t.Helper()
	if e != wantE || !slices.Equal(got, want) {
		t.Fatalf("%s:\n%v, %d, want\n%v, %d", what, got, e, want, wantE)
	}
	if e != api.OK && len(got) > 0 {
		t.Fatalf("%s: %v beside %d", what, got, e)
	}
	if e == api.OK && !isList(got) {
		t.Fatalf("%s: %v is no list", what, got)
	}
}

// isList tells whether areas are a list: sound ones, by From, that do not meet.
func isList(list []api.Area) bool {
	end := 0
	for _, a := range list {
		if !soundModel(a) || a.From < end {
			return false
		}
		end = a.From + a.Pages
	}
	return true
}

// on is a list that calls are done on, each held against the model; what is handed in
// must be as it was behind each.
type on struct {
	t    *testing.T
	list []api.Area
}

// onList answers one, if these areas are a list.
func onList(t *testing.T, list ...api.Area) on {
	t.Helper()
	if !isList(list) {
		t.Fatalf("%v is no list", list)
	}
	return on{t, list}
}

func (x on) add(a api.Area) ([]api.Area, api.Errno) {
	x.t.Helper()
	given, left := roomy(x.list)
	got, e := Add(given, a)
	want, wantE := addModel(x.list, a)
	x.holds(got, e, want, wantE, left, toldOf("Add", a))
	return got, e
}

func (x on) cut(from, pages int) ([]api.Area, api.Errno) {
	x.t.Helper()
	given, left := roomy(x.list)
	got, e := Cut(given, from, pages)
	want, wantE := cutModel(x.list, from, pages)
	x.holds(got, e, want, wantE, left, told("Cut", from, pages))
	return got, e
}

func (x on) protect(from, pages int, write bool) ([]api.Area, api.Errno) {
	x.t.Helper()
	given, left := roomy(x.list)
	got, e := Protect(given, from, pages, write)
	want, wantE := protectModel(x.list, from, pages, write)
	x.holds(got, e, want, wantE, left, toldOf("Protect", api.Area{From: from, Pages: pages, Write: write}))
	return got, e
}

// holds fails if the answer is not the model's, or the list is not as it was.
func (x on) holds(got []api.Area, e api.Errno, want []api.Area, wantE api.Errno, left func() bool, what string) {
	x.t.Helper()
	same(x.t, got, e, want, wantE, what)
	if !left() {
		x.t.Fatalf("%s changed what was handed in", what)
	}
}

func (x on) find(at int) (api.Area, bool) {
	x.t.Helper()
	given, left := roomy(x.list)
	got, ok := Find(given, at)
	if want, wantOk := findModel(x.list, at); got != want || ok != wantOk {
		x.t.Fatalf("Find %d: %v, %v, want %v, %v", at, got, ok, want, wantOk)
	}
	if !left() {
		x.t.Fatalf("Find %d changed what was handed in", at)
	}
	return got, ok
}

// numbers are numbers below n that look like random ones, the same ones for the same
// seed.
func numbers(seed uint64) func(n int) int {
	return func(n int) int {
		seed = seed*6364136223846793005 + 1442695040888963407
		return int((seed >> 33) % uint64(n))
	}
}

// P17.1: the chapter's example, of each kind.
func TestExample(t *testing.T) {
	got, e := Cut([]api.Area{own(10, 10)}, 14, 3)
	same(t, got, e, []api.Area{own(10, 4), own(17, 3)}, api.OK, "Cut of an Own one")
	got, e = Cut([]api.Area{shared(10, 10, 2, 5)}, 14, 3)
	same(t, got, e, []api.Area{shared(10, 4, 2, 5), shared(17, 3, 2, 12)}, api.OK, "Cut of a Shared one")
	got, e = Cut([]api.Area{private(10, 10, 3, 0)}, 14, 3)
	same(t, got, e, []api.Area{private(10, 4, 3, 0), private(17, 3, 3, 7)}, api.OK, "Cut of a Private one")
}

// P17.1: Sound at each edge that the chapter names, and beyond it.
func TestSound(t *testing.T) {
	for _, c := range []struct {
		a    api.Area
		want bool
	}{
		{own(0, 1), true}, {own(-1, 1), false}, {own(-1, 2), false}, {own(0, 0), false}, {own(5, 0), false}, {own(5, -1), false},
		{own(0, 4096), true}, {own(0, 4097), false}, {own(1, 4095), true}, {own(1, 4096), false},
		{own(4095, 1), true}, {own(4095, 2), false}, {own(4096, 1), false}, {own(4096, 0), false}, {own(4097, -1), false},
		{own(4097, 1), false}, {own(9, 17), true},
		{api.Area{From: 1, Pages: 1, Kind: api.Own}, true},
		{api.Area{From: 1, Pages: 1, Kind: api.Own, File: 1}, false}, {api.Area{From: 1, Pages: 1, Kind: api.Own, File: -1}, false},
		{api.Area{From: 1, Pages: 1, Kind: api.Own, Off: 1}, false}, {api.Area{From: 1, Pages: 1, Kind: api.Own, Off: -1}, false},
		{api.Area{}, false}, {api.Area{From: 1, Pages: 1}, false}, {api.Area{From: 1, Pages: 1, Kind: -1}, false},
		{api.Area{From: 1, Pages: 1, Kind: 4}, false}, {api.Area{From: 1, Pages: 1, Kind: 5}, false},
		{api.Area{From: 1, Pages: 1, Kind: 1 << 32}, false}, {api.Area{From: 1, Pages: 1, Kind: 1<<32 + 1}, false},
	} {
		if Sound(c.a) != c.want {
			t.Errorf("%s: %v", toldOf("Sound", c.a), !c.want)
		}
	}
}

// P17.1: Sound of areas of a file at each edge.
func TestSoundOfFiles(t *testing.T) {
	for _, of := range []func(from, pages, file, off int) api.Area{shared, private} {
		for _, c := range []struct {
			from, pages, file, off int
			want                   bool
		}{
			{0, 1, 0, 0, true}, {0, 1, 3, 0, true}, {0, 1, 4, 0, false}, {0, 1, -1, 0, false}, {0, 1, 1 << 32, 0, false},
			{0, 16, 0, 0, true}, {0, 17, 0, 0, false}, {0, 16, 0, 1, false}, {0, 15, 0, 1, true}, {0, 15, 0, 2, false},
			{0, 1, 0, 15, true}, {0, 2, 0, 15, false}, {0, 1, 0, 16, false}, {0, 0, 0, 16, false}, {0, 1, 0, 17, false},
			{0, 1, 0, -1, false}, {0, 17, 0, -1, false}, {0, 8, 2, 8, true}, {0, 8, 2, 9, false}, {0, 9, 2, 8, false},
			{4080, 16, 3, 0, true}, {4081, 16, 3, 0, false}, {4081, 15, 3, 0, true}, {4095, 1, 3, 15, true}, {4096, 1, 3, 15, false},
			{-1, 1, 0, 0, false}, {5, 0, 0, 0, false}, {5, -1, 0, 3, false},
		} {
			if a := of(c.from, c.pages, c.file, c.off); Sound(a) != c.want || Sound(with(a, true)) != c.want {
				t.Errorf("%s: not %v", toldOf("Sound", a), c.want)
			}
		}
	}
}

// P17.1: Sound of numbers at the ends of int, where a sum of two would wrap round, one,
// two and more at a time.
func TestSoundAtTheEnds(t *testing.T) {
	check := func(a api.Area) {
		if got, want := Sound(a), soundModel(a); got != want {
			t.Errorf("%s: %v", toldOf("Sound", a), got)
		}
	}
	for _, n := range ends() {
		for _, o := range ends() {
			for kind := api.Own; kind <= api.Private; kind++ {
				check(api.Area{From: n, Pages: o, Kind: kind})
				check(api.Area{From: n, Pages: 4, Kind: kind, Off: o})
				check(api.Area{From: 4, Pages: n, Kind: kind, Off: o})
				check(api.Area{From: 4, Pages: 1, Kind: kind, File: n, Off: o})
				check(api.Area{From: 4, Pages: n, Write: true, Kind: kind, File: o})
				check(api.Area{From: o, Pages: o, Kind: kind, File: n, Off: n})
				check(api.Area{From: n, Pages: math.MinInt - n, Kind: kind, Off: o})
				check(api.Area{From: n, Pages: math.MaxInt - n + 1, Kind: kind, Off: math.MaxInt - n + 1})
			}
			check(api.Area{From: 0, Pages: 1, Kind: n, Off: o})
			check(api.Area{From: 0, Pages: 1, Kind: n, File: o})
			check(api.Area{From: o, Pages: 1, Kind: n})
		}
	}
}

// P17.1: Find of each page: those of an area, the ones at its ends, the ones beside it.
func TestFind(t *testing.T) {
	list := mixed()
	x := onList(t, list...)
	for at := -20; at < api.MaxPages+20; at++ {
		x.find(at)
	}
	for _, c := range []struct{ at, area int }{
		{0, 0}, {2, 0}, {3, 1}, {4, 2}, {9, 2}, {12, 3}, {27, 3}, {40, 4}, {41, 5}, {43, 5}, {44, 6}, {45, 6},
		{100, 7}, {600, 7}, {1099, 7}, {4090, 8}, {4094, 8}, {4095, 9},
		{-1, -1}, {10, -1}, {11, -1}, {28, -1}, {39, -1}, {46, -1}, {99, -1}, {1100, -1}, {4089, -1}, {4096, -1},
	} {
		want := api.Area{}
		if c.area >= 0 {
			want = list[c.area]
		}
		if got, ok := Find(list, c.at); got != want || ok != (c.area >= 0) {
			t.Errorf("Find %d: %v, %v, want %v", c.at, got, ok, want)
		}
	}
}

// P17.1: Find of pages that there are not, in lists of all kinds: false, and no area.
func TestFindNone(t *testing.T) {
	for _, list := range [][]api.Area{nil, {}, mixed(), {own(0, 4096)}, {own(0, 1)}, {own(4095, 1)}, many(16, 3, api.Shared)} {
		for _, at := range ends() {
			onList(t, list...).find(at)
		}
	}
}

// P17.1: Add to none; ahead of all, behind all, between; with gaps, and up to both ends
// of its neighbours.
func TestAdd(t *testing.T) {
	for _, list := range [][]api.Area{nil, {}} {
		got, e := Add(list, shared(7, 2, 1, 3))
		same(t, got, e, []api.Area{shared(7, 2, 1, 3)}, api.OK, "Add to none")
	}
	a, b := own(10, 5), private(20, 5, 1, 1)
	for _, c := range []struct {
		add  api.Area
		want []api.Area
	}{
		{own(0, 1), []api.Area{own(0, 1), a, b}},
		{own(0, 10), []api.Area{own(0, 10), a, b}},
		{own(9, 1), []api.Area{own(9, 1), a, b}},
		{shared(15, 5, 3, 11), []api.Area{a, shared(15, 5, 3, 11), b}},
		{shared(15, 1, 3, 15), []api.Area{a, shared(15, 1, 3, 15), b}},
		{private(17, 1, 0, 0), []api.Area{a, private(17, 1, 0, 0), b}},
		{own(19, 1), []api.Area{a, own(19, 1), b}},
		{own(25, 4071), []api.Area{a, b, own(25, 4071)}},
		{own(25, 1), []api.Area{a, b, own(25, 1)}},
		{with(own(4095, 1), false), []api.Area{a, b, with(own(4095, 1), false)}},
	} {
		got, e := onList(t, a, b).add(c.add)
		same(t, got, e, c.want, api.OK, toldOf("Add", c.add))
	}
	if got, e := onList(t).add(own(0, 4096)); e != api.OK || len(got) != 1 {
		t.Errorf("Add of all pages: %v, %d", got, e)
	}
}

// P17.1: areas that follow one another, and say the same, are not put together.
func TestAddBeside(t *testing.T) {
	got, e := Add([]api.Area{shared(4, 2, 1, 4), shared(8, 2, 1, 8)}, shared(6, 2, 1, 6))
	same(t, got, e, []api.Area{shared(4, 2, 1, 4), shared(6, 2, 1, 6), shared(8, 2, 1, 8)}, api.OK, "Add of a Shared one")
	got, e = Add([]api.Area{own(4, 2), own(8, 2)}, own(6, 2))
	same(t, got, e, []api.Area{own(4, 2), own(6, 2), own(8, 2)}, api.OK, "Add of an Own one")
}

// P17.1: Add of an area that meets another one, by any pages of it: by its first one, by
// its last one, by all, from within and from without, by pages of several.
func TestAddThere(t *testing.T) {
	a, b := own(10, 5), private(20, 5, 1, 1)
	x := onList(t, a, b)
	for _, add := range []api.Area{
		a, b, own(9, 2), own(0, 11), own(14, 1), own(14, 2), own(14, 6), own(12, 1), own(10, 1), own(10, 4), own(9, 7), own(0, 4096),
		own(14, 7), own(19, 2), own(20, 1), own(24, 1), own(24, 4072), shared(24, 2, 0, 0), private(22, 1, 1, 3), own(0, 25),
		shared(9, 16, 2, 0), own(15, 6),
	} {
		if _, e := x.add(add); e != api.ErrThere {
			t.Errorf("%s: %d", toldOf("Add", add), e)
		}
	}
	for from := range 40 {
		for pages := 1; pages < 40; pages++ {
			x.add(own(from, pages))
		}
	}
}

// P17.1: Add to MaxAreas: ErrFull, of an area at any place; to one fewer it is there.
func TestAddFull(t *testing.T) {
	for _, kind := range []int{api.Own, api.Shared, api.Private} {
		x, y := onList(t, many(16, 3, kind)...), onList(t, many(15, 3, kind)...)
		for gap := range 17 {
			a := own(gap*4, 1)
			if _, e := x.add(a); e != api.ErrFull {
				t.Fatalf("%s to 16: %d", toldOf("Add", a), e)
			}
			if l, e := y.add(a); e != api.OK || len(l) != 16 {
				t.Fatalf("%s to 15: %v, %d", toldOf("Add", a), l, e)
			}
		}
	}
	list := []api.Area(nil)
	for i := range 20 {
		l, e := onList(t, list...).add(shared(100-i, 1, i%4, i%16))
		if want := i >= 16; (e == api.ErrFull) != want {
			t.Fatalf("Add %d: %d", i, e)
		}
		if e == api.OK {
			list = l
		}
	}
	if len(list) != 16 || list[0].From != 85 {
		t.Errorf("16 Adds: %v", list)
	}
}

// R2: which error of Add: ErrArg ahead of ErrThere, and both ahead of ErrFull.
func TestAddWhichError(t *testing.T) {
	list := many(16, 3, api.Own)
	bad := own(1, 1)
	bad.Off = 1
	for _, c := range []struct {
		list []api.Area
		a    api.Area
		want api.Errno
	}{
		{list, bad, api.ErrArg}, {list[:5], bad, api.ErrArg}, {nil, bad, api.ErrArg}, {list, own(1, 5000), api.ErrArg},
		{list, own(0, 0), api.ErrArg}, {list, shared(1, 3, 4, 0), api.ErrArg}, {list, private(1, 3, 0, 14), api.ErrArg},
		{list, api.Area{}, api.ErrArg}, {list, own(4000, 97), api.ErrArg}, {nil, own(math.MaxInt, math.MaxInt), api.ErrArg},
		{list, own(1, 1), api.ErrThere}, {list[:5], own(1, 1), api.ErrThere}, {list, shared(63, 1, 3, 1), api.ErrThere},
		{list, own(0, 1), api.ErrFull}, {list, own(4095, 1), api.ErrFull}, {list[:15], own(4095, 1), api.OK},
	} {
		if _, e := onList(t, c.list...).add(c.a); e != c.want {
			t.Errorf("%s: %d, want %d", toldOf("Add", c.a), e, c.want)
		}
	}
}

// P17.1: Cut of one area: all of it, and more; from the first page on, to the last, in
// the middle; pages beside it alone. Off goes along, but of an Own one, which has none.
func TestCut(t *testing.T) {
	for _, c := range []struct {
		from, pages int
		left        [][2]int // first pages, and how many
	}{
		{10, 6, nil}, {9, 7, nil}, {10, 7, nil}, {0, 4096, nil}, {9, 8, nil},
		{10, 1, [][2]int{{11, 5}}}, {10, 5, [][2]int{{15, 1}}}, {0, 13, [][2]int{{13, 3}}}, {9, 2, [][2]int{{11, 5}}},
		{15, 1, [][2]int{{10, 5}}}, {11, 5, [][2]int{{10, 1}}}, {13, 4083, [][2]int{{10, 3}}}, {15, 2, [][2]int{{10, 5}}},
		{11, 1, [][2]int{{10, 1}, {12, 4}}}, {14, 1, [][2]int{{10, 4}, {15, 1}}}, {11, 4, [][2]int{{10, 1}, {15, 1}}}, {12, 2, [][2]int{{10, 2}, {14, 2}}},
		{0, 10, [][2]int{{10, 6}}}, {9, 1, [][2]int{{10, 6}}}, {16, 1, [][2]int{{10, 6}}}, {16, 4080, [][2]int{{10, 6}}}, {4095, 1, [][2]int{{10, 6}}}, {0, 1, [][2]int{{10, 6}}},
	} {
		for _, write := range []bool{false, true} {
			for _, a := range []api.Area{own(10, 6), shared(10, 6, 2, 0), shared(10, 6, 1, 10), private(10, 6, 3, 4)} {
				a = with(a, write)
				var want []api.Area
				for _, l := range c.left {
					b := a
					b.From, b.Pages = l[0], l[1]
					if a.Kind != api.Own {
						b.Off = a.Off + l[0] - 10
					}
					want = append(want, b)
				}
				got, e := onList(t, a).cut(c.from, c.pages)
				same(t, got, e, want, api.OK, toldOf(told("Cut", c.from, c.pages)+" of", a))
			}
		}
	}
}

// P17.1: Cut of pages of several areas: those between are gone, those at the ends are
// cut; the others are as they were.
func TestCutOfSeveral(t *testing.T) {
	list := []api.Area{own(0, 4), shared(4, 4, 1, 2), own(10, 1), private(12, 4, 2, 0), own(16, 100)}
	for _, c := range []struct {
		from, pages int
		want        []api.Area
	}{
		{2, 12, []api.Area{own(0, 2), private(14, 2, 2, 2), own(16, 100)}},
		{4, 8, []api.Area{own(0, 4), private(12, 4, 2, 0), own(16, 100)}},
		{5, 6, []api.Area{own(0, 4), shared(4, 1, 1, 2), private(12, 4, 2, 0), own(16, 100)}},
		{0, 7, []api.Area{shared(7, 1, 1, 5), own(10, 1), private(12, 4, 2, 0), own(16, 100)}},
		{15, 2, []api.Area{own(0, 4), shared(4, 4, 1, 2), own(10, 1), private(12, 3, 2, 0), own(17, 99)}},
		{8, 2, list}, {11, 1, list}, {116, 3980, list}, {0, 4096, nil}, {0, 116, nil}, {1, 114, []api.Area{own(0, 1), own(115, 1)}},
	} {
		got, e := onList(t, list...).cut(c.from, c.pages)
		same(t, got, e, c.want, api.OK, told("Cut", c.from, c.pages))
	}
}

// P17.1: Cut of all pages that there can be in lists of all kinds.
func TestCutEverywhere(t *testing.T) {
	for _, list := range [][]api.Area{nil, {}, mixed()[:7], many(5, 7, api.Private), many(16, 2, api.Shared)} {
		x := onList(t, list...)
		for from := range 50 {
			for pages := 1; pages < 52; pages++ {
				x.cut(from, pages)
			}
		}
	}
}

// P17.1: Cut of pages that there are not: ErrArg, whatever the list; at the last page
// and at the ends of int, too.
func TestCutArg(t *testing.T) {
	for _, c := range []struct {
		from, pages int
		want        api.Errno
	}{
		{-1, 1, api.ErrArg}, {-1, 2, api.ErrArg}, {0, 0, api.ErrArg}, {0, -1, api.ErrArg}, {5, 0, api.ErrArg}, {0, 4097, api.ErrArg},
		{1, 4096, api.ErrArg}, {4095, 2, api.ErrArg}, {4096, 0, api.ErrArg}, {4096, 1, api.ErrArg}, {4097, -1, api.ErrArg},
		{math.MaxInt, 1, api.ErrArg}, {1, math.MaxInt, api.ErrArg}, {math.MaxInt, math.MaxInt, api.ErrArg}, {math.MinInt, math.MinInt, api.ErrArg},
		{math.MinInt, math.MaxInt, api.ErrArg}, {math.MaxInt, math.MinInt, api.ErrArg}, {1 << 32, 1, api.ErrArg}, {0, 1<<32 + 1, api.ErrArg},
		{0, 4096, api.OK}, {4095, 1, api.OK}, {0, 1, api.OK}, {1, 4095, api.OK},
	} {
		for _, list := range [][]api.Area{nil, {}, mixed(), many(16, 3, api.Own), {own(0, 4096)}} {
			if c.want == api.ErrArg {
				if _, e := onList(t, list...).cut(c.from, c.pages); e != c.want {
					t.Errorf("%s: %d", told("Cut", c.from, c.pages), e)
				}
				if _, e := onList(t, list...).protect(c.from, c.pages, true); e != c.want {
					t.Errorf("%s: %d", told("Protect", c.from, c.pages), e)
				}
			} else if _, e := Cut(list[:min(len(list), 15)], c.from, c.pages); e != api.OK {
				t.Errorf("%s: %d", told("Cut", c.from, c.pages), e)
			}
		}
	}
}

// P17.1: Cut and Protect of all numbers at the edges.
func TestEdges(t *testing.T) {
	for _, list := range [][]api.Area{nil, mixed(), many(15, 2, api.Own), many(16, 2, api.Private), {own(0, 4096)}, {own(4095, 1)}, {private(0, 1, 3, 15)}} {
		x := onList(t, list...)
		for _, from := range ends() {
			for _, pages := range ends() {
				x.cut(from, pages)
				x.protect(from, pages, false)
				x.protect(from, pages, true)
				x.add(own(from, pages))
				x.add(private(from, pages, 1, 2))
			}
		}
	}
}

// P17.1: Cut in the middle of one of MaxAreas: ErrFull, whichever; at its end, of all of
// it, and of one beside: not. Of fewer it is done.
func TestCutFull(t *testing.T) {
	for _, kind := range []int{api.Own, api.Shared, api.Private} {
		list := many(16, 3, kind)
		for i, a := range list {
			for _, c := range []struct {
				from, pages, left int
				want              api.Errno
			}{
				{a.From + 1, 1, 0, api.ErrFull}, {a.From, 1, 16, api.OK}, {a.From + 2, 1, 16, api.OK}, {a.From, 3, 15, api.OK},
				{a.From - 1, 1, 16, api.OK}, {a.From + 3, 1, 16, api.OK}, {a.From + 1, 2, 16, api.OK}, {a.From + 1, 3, 16, api.OK},
			} {
				if l, e := onList(t, list...).cut(c.from, c.pages); e != c.want || len(l) != c.left {
					t.Fatalf("%s: %v, %d", told("Cut", c.from, c.pages), l, e)
				}
			}
			fewer := slices.Delete(slices.Clone(list), i, i+1)
			b := fewer[min(i, 14)]
			if l, e := onList(t, fewer...).cut(b.From+1, 1); e != api.OK || len(l) != 16 {
				t.Fatalf("%s of 15: %v, %d", told("Cut", b.From+1, 1), l, e)
			}
		}
	}
}

// P17.1: the edges of what is too many, of lists that are longer than MaxAreas: they are
// lists, too, and what is left counts alone.
func TestLongLists(t *testing.T) {
	list := many(20, 3, api.Own)
	x := onList(t, list...)
	for _, c := range []struct {
		from, pages int
		want        api.Errno
	}{
		{0, 16, api.OK}, {0, 12, api.ErrFull}, {0, 13, api.ErrFull}, {0, 15, api.ErrFull}, {5, 15, api.OK}, {6, 15, api.ErrFull}, {6, 17, api.ErrFull}, {6, 18, api.OK}, {0, 1, api.ErrFull}, {100, 1, api.ErrFull}, {0, 4096, api.OK},
	} {
		if l, e := x.cut(c.from, c.pages); e != c.want {
			t.Errorf("%s: %v, %d, want %d", told("Cut", c.from, c.pages), l, e, c.want)
		}
	}
	for from := range 90 {
		for pages := 1; pages < 90; pages++ {
			x.cut(from, pages)
			x.protect(from, pages, true)
		}
		x.add(own(from, 1))
		x.find(from)
	}
}

// P17.1: Protect of one area: all of it, and more; a part at its first page, at its last
// one, in the middle: that part alone has that Write, and Off goes along.
func TestProtect(t *testing.T) {
	for _, c := range []struct {
		from, pages int
		pieces      [][3]int // first page, how many, 1 if these are of the call
	}{
		{10, 6, [][3]int{{10, 6, 1}}}, {9, 7, [][3]int{{10, 6, 1}}}, {10, 7, [][3]int{{10, 6, 1}}}, {0, 4096, [][3]int{{10, 6, 1}}}, {9, 8, [][3]int{{10, 6, 1}}},
		{10, 1, [][3]int{{10, 1, 1}, {11, 5, 0}}}, {10, 5, [][3]int{{10, 5, 1}, {15, 1, 0}}}, {0, 13, [][3]int{{10, 3, 1}, {13, 3, 0}}},
		{15, 1, [][3]int{{10, 5, 0}, {15, 1, 1}}}, {11, 5, [][3]int{{10, 1, 0}, {11, 5, 1}}}, {13, 4083, [][3]int{{10, 3, 0}, {13, 3, 1}}},
		{11, 1, [][3]int{{10, 1, 0}, {11, 1, 1}, {12, 4, 0}}}, {14, 1, [][3]int{{10, 4, 0}, {14, 1, 1}, {15, 1, 0}}},
		{11, 4, [][3]int{{10, 1, 0}, {11, 4, 1}, {15, 1, 0}}}, {12, 2, [][3]int{{10, 2, 0}, {12, 2, 1}, {14, 2, 0}}},
	} {
		for n := range 4 {
			write := n%2 == 1
			for _, a := range []api.Area{own(10, 6), shared(10, 6, 2, 0), shared(10, 6, 1, 10), private(10, 6, 3, 4)} {
				a = with(a, n/2 == 1)
				var want []api.Area
				for _, l := range c.pieces {
					b := with(a, a.Write && l[2] == 0 || write && l[2] == 1)
					b.From, b.Pages = l[0], l[1]
					if a.Kind != api.Own {
						b.Off = a.Off + l[0] - 10
					}
					want = append(want, b)
				}
				got, e := onList(t, a).protect(c.from, c.pages, write)
				same(t, got, e, want, api.OK, toldOf(told("Protect", c.from, c.pages)+" of", a))
			}
		}
	}
}

// P17.1: Protect of pages of several areas, of which some are in none: those at the ends
// are cut, those between are whole, and the gaps are gaps.
func TestProtectOfSeveral(t *testing.T) {
	a, b, c, d := with(own(0, 4), false), shared(4, 4, 1, 2), own(10, 1), private(12, 4, 2, 0)
	for _, x := range []struct {
		from, pages int
		want        []api.Area
	}{
		{2, 12, []api.Area{with(own(0, 2), false), own(2, 2), with(b, true), c, with(private(12, 2, 2, 0), true), private(14, 2, 2, 2)}},
		{4, 4, []api.Area{a, with(b, true), c, d}},
		{3, 1, []api.Area{with(own(0, 3), false), own(3, 1), b, c, d}},
		{7, 4, []api.Area{a, shared(4, 3, 1, 2), with(shared(7, 1, 1, 5), true), c, d}},
		{8, 3, []api.Area{a, b, c, d}},
		{11, 2, []api.Area{a, b, c, with(private(12, 1, 2, 0), true), private(13, 3, 2, 1)}},
		{0, 4096, []api.Area{with(a, true), with(b, true), c, with(d, true)}},
	} {
		got, e := onList(t, a, b, c, d).protect(x.from, x.pages, true)
		same(t, got, e, x.want, api.OK, told("Protect", x.from, x.pages))
	}
}

// P17.1: areas that have that Write are cut, too, and what was cut stays cut: none are
// put together, back and forth.
func TestProtectPutsNothingTogether(t *testing.T) {
	got, e := Protect([]api.Area{own(0, 9)}, 3, 3, true)
	same(t, got, e, []api.Area{own(0, 3), own(3, 3), own(6, 3)}, api.OK, "Protect of what is so")
	got, e = Protect([]api.Area{private(0, 9, 1, 4)}, 3, 3, false)
	same(t, got, e, []api.Area{private(0, 3, 1, 4), private(3, 3, 1, 7), private(6, 3, 1, 10)}, api.OK, "Protect of what is so")
	list := []api.Area{own(0, 9)}
	for n := range 6 {
		if list, e = onList(t, list...).protect(3, 3, n%2 == 1); e != api.OK || len(list) != 3 {
			t.Fatalf("Protect %d: %v, %d", n, list, e)
		}
	}
	same(t, list, e, []api.Area{own(0, 3), own(3, 3), own(6, 3)}, api.OK, "Protect six times")
	got, e = onList(t, list...).protect(0, 9, true)
	same(t, got, e, list, api.OK, "Protect of all three")
}

// P17.1: Protect of pages that are in no area: ErrNone; one of them that is in one is
// enough.
func TestProtectNone(t *testing.T) {
	for _, list := range [][]api.Area{nil, {}} {
		for _, n := range [][2]int{{0, 1}, {0, 4096}, {4095, 1}, {7, 7}} {
			if l, e := Protect(list, n[0], n[1], true); e != api.ErrNone || len(l) > 0 {
				t.Errorf("Protect of none: %v, %d", l, e)
			}
		}
	}
	x := onList(t, own(10, 5), shared(20, 5, 0, 0))
	for _, c := range []struct {
		from, pages int
		want        api.Errno
	}{
		{0, 10, api.ErrNone}, {0, 11, api.OK}, {9, 1, api.ErrNone}, {15, 5, api.ErrNone}, {14, 6, api.OK}, {15, 6, api.OK}, {17, 1, api.ErrNone},
		{25, 4071, api.ErrNone}, {24, 4072, api.OK}, {4095, 1, api.ErrNone}, {0, 4096, api.OK},
	} {
		for _, write := range []bool{false, true} {
			if _, e := x.protect(c.from, c.pages, write); e != c.want {
				t.Errorf("%s: %d, want %d", told("Protect", c.from, c.pages), e, c.want)
			}
		}
	}
}

// P17.1: Protect is ErrFull, if there would be more than MaxAreas: one more of MaxAreas,
// two more of one fewer; also where the Write is so already. Whole ones add none.
func TestProtectFull(t *testing.T) {
	for _, kind := range []int{api.Own, api.Shared, api.Private} {
		for n := 13; n <= 16; n++ {
			list := many(n, 3, kind)
			for i, a := range list {
				for _, c := range []struct{ from, pages, more int }{
					{a.From, 3, 0}, {a.From - 1, 5, 0}, {a.From, 1, 1}, {a.From + 2, 1, 1}, {a.From + 1, 2, 1}, {a.From - 1, 3, 1}, {a.From + 1, 1, 2},
					{0, 4096, 0}, {0, a.From + 1, 1}, {a.From + 1, 4095 - a.From, 1},
				} {
					for _, write := range []bool{false, true} {
						l, e := onList(t, list...).protect(c.from, c.pages, write)
						if full := n+c.more > 16; full != (e == api.ErrFull) || !full && len(l) != n+c.more {
							t.Fatalf("%s of %d: %v, %d", told("Protect", c.from, c.pages), n, l, e)
						}
					}
				}
				if i+1 < n { // from the midst of one to that of the next one
					l, e := onList(t, list...).protect(a.From+1, 4, true)
					if full := n+2 > 16; full != (e == api.ErrFull) || !full && len(l) != n+2 {
						t.Fatalf("%s of %d: %v, %d", told("Protect", a.From+1, 4), n, l, e)
					}
				}
			}
		}
	}
}

// R2: which error of Protect and of Cut: ErrArg ahead of ErrNone, and both ahead of
// ErrFull.
func TestWhichError(t *testing.T) {
	long := many(17, 3, api.Own)
	for _, c := range []struct {
		list        []api.Area
		from, pages int
		protect     api.Errno
		cut         api.Errno
	}{
		{long, 0, 0, api.ErrArg, api.ErrArg}, {long, -1, 5, api.ErrArg, api.ErrArg}, {long, 4095, 2, api.ErrArg, api.ErrArg}, {long, 2, 4095, api.ErrArg, api.ErrArg},
		{long, 0, 1, api.ErrNone, api.ErrFull}, {long, 4095, 1, api.ErrNone, api.ErrFull}, {long, 1, 1, api.ErrFull, api.ErrFull},
		{long[:16], 0, 1, api.ErrNone, api.OK}, {long[:16], 2, 1, api.ErrFull, api.ErrFull}, {long[:16], 1, 3, api.OK, api.OK},
		{nil, 0, 0, api.ErrArg, api.ErrArg}, {nil, 4096, 1, api.ErrArg, api.ErrArg}, {nil, 0, 1, api.ErrNone, api.OK},
	} {
		if _, e := onList(t, c.list...).protect(c.from, c.pages, true); e != c.protect {
			t.Errorf("%s: %d, want %d", told("Protect", c.from, c.pages), e, c.protect)
		}
		if _, e := onList(t, c.list...).cut(c.from, c.pages); e != c.cut {
			t.Errorf("%s: %d, want %d", told("Cut", c.from, c.pages), e, c.cut)
		}
	}
}

// R4: what a caller does to an answer, its spare room included, changes neither the list
// that was handed in, nor another answer; also where the call had nothing to do.
func TestAnswersAreNew(t *testing.T) {
	for _, list := range [][]api.Area{mixed(), many(15, 3, api.Shared), {own(20, 5)}} {
		given, left := roomy(list)
		calls := []func() ([]api.Area, api.Errno){
			func() ([]api.Area, api.Errno) { return Add(given, own(2000, 1)) },
			func() ([]api.Area, api.Errno) { return Cut(given, 2000, 1) },
			func() ([]api.Area, api.Errno) { return Cut(given, 0, 4) },
			func() ([]api.Area, api.Errno) { return Cut(given, 22, 1) },
			func() ([]api.Area, api.Errno) { return Protect(given, 0, 4096, true) },
			func() ([]api.Area, api.Errno) { return Protect(given, 0, 22, false) },
		}
		for i, call := range calls {
			kept, e := call()
			as := slices.Clone(kept)
			if e != api.OK || len(kept) == 0 {
				t.Fatalf("call %d: %v, %d", i, kept, e)
			}
			for _, other := range calls {
				got, _ := other()
				got = got[:cap(got)]
				for j := range got {
					got[j] = api.Area{From: 9, Pages: 9, Kind: 9, File: 9, Off: 9}
				}
				if !left() || !slices.Equal(kept, as) {
					t.Fatalf("call %d: an answer shares memory", i)
				}
			}
			for j := range given {
				given[j].Pages++
			}
			if !slices.Equal(kept, as) {
				t.Fatalf("call %d: the answer hangs on what was handed in", i)
			}
			copy(given, list)
		}
	}
}

// R1: every call answers at areas that are none, and at lists that are none, whatever
// they answer; what was handed in is as it was, and the same call answers the same.
func TestListsThatAreNone(t *testing.T) {
	next := numbers(3)
	some := func() int {
		if next(2) == 0 {
			return next(20)
		}
		return ends()[next(len(ends()))]
	}
	for range 20000 {
		var list []api.Area
		for range next(20) {
			list = append(list, api.Area{From: some(), Pages: some(), Write: next(2) == 0, Kind: next(6) - 1, File: some(), Off: some()})
		}
		given, left := roomy(list)
		from, pages := some(), some()
		a := api.Area{From: from, Pages: pages, Kind: api.Own}
		f, ok := Find(given, from)
		added, e := Add(given, a)
		cut, e2 := Cut(given, from, pages)
		protected, e3 := Protect(given, from, pages, true)
		if g, o := Find(given, from); f != g || ok != o {
			t.Fatalf("Find in %v", list)
		}
		again, e4 := Add(given, a)
		if !slices.Equal(added, again) || e != e4 || !soundModel(a) && e != api.ErrArg {
			t.Fatalf("%s to %v", toldOf("Add", a), list)
		}
		again, e4 = Cut(given, from, pages)
		if !slices.Equal(cut, again) || e2 != e4 || !row(from, pages, 4096) && e2 != api.ErrArg {
			t.Fatalf("%s of %v", told("Cut", from, pages), list)
		}
		again, e4 = Protect(given, from, pages, true)
		if !slices.Equal(protected, again) || e3 != e4 || !row(from, pages, 4096) && e3 != api.ErrArg {
			t.Fatalf("%s of %v", told("Protect", from, pages), list)
		}
		if !left() {
			t.Fatalf("a call changed %v", list)
		}
	}
}

// P17.1: nil and empty lists are the same.
func TestNil(t *testing.T) {
	for _, list := range [][]api.Area{nil, {}, make([]api.Area, 0, 9)} {
		x := onList(t, list...)
		if a, ok := x.find(0); ok || a != (api.Area{}) {
			t.Errorf("Find in none: %v, %v", a, ok)
		}
		got, e := x.cut(0, 4096)
		same(t, got, e, nil, api.OK, "Cut of none")
		got, e = x.protect(0, 4096, true)
		same(t, got, e, nil, api.ErrNone, "Protect of none")
		got, e = x.add(own(0, 1))
		same(t, got, e, []api.Area{own(0, 1)}, api.OK, "Add to none")
	}
}

// anyCall does a call on a list, with numbers that are near those that are there.
func anyCall(x on, next func(n int) int) ([]api.Area, api.Errno) {
	x.t.Helper()
	from, pages := next(60), 1+next(12)
	if len(x.list) > 0 && next(2) == 0 {
		a := x.list[next(len(x.list))]
		from, pages = max(0, a.From+next(a.Pages+2)-1), 1+next(a.Pages+1)
	}
	switch next(8) {
	case 0:
		return x.cut(from, pages)
	case 1:
		return x.protect(from, pages, next(2) == 0)
	case 2:
		return x.cut(from, 1)
	case 3:
		return x.protect(from, 1+next(40), next(2) == 0)
	case 4:
		return x.add(own(from, pages))
	case 5:
		return x.add(with(shared(from, pages, next(4), next(17-min(16, pages))), next(2) == 0))
	case 6:
		return x.add(private(from, 1+next(3), next(4), next(14)))
	default:
		return x.add(own(60+next(4000), 1+next(60)))
	}
}

// P17.1: many calls in a row, each on what the one ahead of it answered.
func TestManyCalls(t *testing.T) {
	for seed := range uint64(40) {
		next, x := numbers(seed), onList(t)
		full := 0
		for range 400 {
			got, e := anyCall(x, next)
			if e == api.OK {
				x = onList(t, got...)
			}
			if e == api.ErrFull {
				full++
				got, e := x.cut(0, 30+next(30))
				if e == api.OK && next(3) == 0 {
					x = onList(t, got...)
				}
			}
			for range 3 {
				x.find(next(70))
			}
		}
		if full == 0 {
			t.Errorf("seed %d: no list was full", seed)
		}
	}
}

// P17.1: what is added, and cut away again, leaves the list as it was; what is cut away
// of an area page by page, is gone page by page.
func TestThereAndBack(t *testing.T) {
	list := mixed()
	for _, a := range []api.Area{own(10, 2), own(11, 1), private(46, 10, 2, 6), own(1100, 2990), shared(28, 12, 3, 4)} {
		l, e := onList(t, list...).add(a)
		if e != api.OK || len(l) != len(list)+1 {
			t.Fatalf("%s: %v, %d", toldOf("Add", a), l, e)
		}
		l, e = onList(t, l...).cut(a.From, a.Pages)
		same(t, l, e, list, api.OK, "Cut of what was added")
	}
	for n := range 16 {
		l, e := onList(t, shared(0, 16, 1, 0)).cut(0, n+1)
		want := []api.Area{shared(n+1, 15-n, 1, n+1)}
		if n == 15 {
			want = nil
		}
		same(t, l, e, want, api.OK, told("Cut", 0, n+1))
	}
}

// P5: the same calls, done again from the beginning, have the same answers.
func TestTheSameAgain(t *testing.T) {
	row := func() ([]api.Area, []api.Errno) {
		next, x := numbers(12), onList(t)
		var all []api.Area
		var errors []api.Errno
		for range 300 {
			got, e := anyCall(x, next)
			if e == api.OK {
				x = onList(t, got...)
			}
			all, errors = append(all, got...), append(errors, e)
		}
		return all, errors
	}
	all, errors := row()
	for range 3 {
		a, e := row()
		if !slices.Equal(a, all) || !slices.Equal(e, errors) {
			t.Fatal("the same calls have other answers")
		}
	}
}
