package space

import (
	"headland/api"
	"headland/area"
	"headland/cache"
	"slices"
)

// bytes are those of a page.
type bytes [api.PageSize]byte

// image is a frame, as the model knows it: not by its number, as which one is given is
// the pool's to say.
type image struct {
	bytes bytes
	zone  int
	filed bool // it is a file's
	key   cache.Key
	dirty bool
}

// content is what a page has.
type content struct {
	kind  int
	image *image
	slot  int
}

// proc is a process.
type proc struct {
	areas   []api.Area
	pages   map[int]content // none of these has Nothing
	signals []int           // their addresses
}

// model is what a Space must be, done by the words alone. Who has a frame or holds a slot
// is found by looking at each page of each process, and how many tables there are by
// counting the pages that begin alike.
type model struct {
	procs map[int]*proc
	files map[cache.Key]*image // pages of files that are in a frame
	disk  map[cache.Key]bytes
	slots [api.MaxSlots]bytes
	room  map[int]int // frames that are Free, by zone
	done  int         // works of the disk that are done ahead of those that fail
	fails int
}

func newModel() *model {
	return &model{procs: map[int]*proc{}, files: map[cache.Key]*image{}, disk: map[cache.Key]bytes{}, room: map[int]int{}}
}

// tables tells how many tables the pages of a process take.
func (x *proc) tables() int {
	heads := map[[2]int]bool{}
	for page := range x.pages {
		for _, size := range []int{512, 64, 8} {
			heads[[2]int{size, page / size}] = true
		}
	}
	return 1 + len(heads)
}

// find answers the area that has a page.
func (x *proc) find(page int) (api.Area, bool) {
	for _, a := range x.areas {
		if page >= a.From && page < a.From+a.Pages {
			return a, true
		}
	}
	return api.Area{}, false
}

// where answers the places whose content is as wanted, by Proc, then by Page.
func (m *model) where(wanted func(c content) bool) []api.Place {
	var list []api.Place
	for n := range api.MaxProcs {
		if m.procs[n] == nil {
			continue
		}
		var pages []int
		for page, c := range m.procs[n].pages {
			if wanted(c) {
				pages = append(pages, page)
			}
		}
		slices.Sort(pages)
		for _, page := range pages {
			list = append(list, api.Place{Proc: n, Page: page})
		}
	}
	return list
}

func (m *model) whoHas(i *image) []api.Place {
	return m.where(func(c content) bool { return c.kind == api.Frame && c.image == i })
}

func (m *model) whoHolds(slot int) []api.Place {
	return m.where(func(c content) bool { return c.kind == api.Slot && c.slot == slot })
}

// images are all frames that are had, or are a file's.
func (m *model) images() map[*image]bool {
	all := map[*image]bool{}
	for _, x := range m.procs {
		for _, c := range x.pages {
			if c.kind == api.Frame {
				all[c.image] = true
			}
		}
	}
	for _, i := range m.files {
		all[i] = true
	}
	return all
}

// work is one of the disk.
func (m *model) work() api.Errno {
	if m.done > 0 {
		m.done--
		return api.OK
	}
	if m.fails > 0 {
		m.fails--
		return api.ErrIO
	}
	return api.OK
}

// alloc answers a frame for bytes: of a Movable section, if there is one.
func (m *model) alloc() (*image, api.Errno) {
	for _, zone := range []int{api.Movable, api.Normal} {
		if m.room[zone] > 0 {
			m.room[zone]--
			return &image{zone: zone}, api.OK
		}
	}
	return nil, api.ErrFull
}

// settle makes a frame Free that is no file's and that nobody has.
func (m *model) settle(i *image) {
	if i != nil && !i.filed && len(m.whoHas(i)) == 0 {
		m.room[i.zone]++
	}
}

// put is the entry of a place, which is there.
func (m *model) put(p api.Place, c content) api.Errno {
	x := m.procs[p.Proc]
	had, tables := x.pages[p.Page], x.tables()
	set := func(c content) {
		x.pages[p.Page] = c
		if c.kind == api.Nothing {
			delete(x.pages, p.Page)
		}
	}
	set(c)
	if x.tables()-tables > m.room[api.Normal] {
		set(had)
		return api.ErrFull
	}
	m.room[api.Normal] -= x.tables() - tables
	if had.image != c.image {
		m.settle(had.image)
	}
	return api.OK
}

// bring makes a place have a new frame.
func (m *model) bring(p api.Place, fill func(i *image) api.Errno) (*image, api.Errno) {
	i, e := m.alloc()
	if e != api.OK {
		return nil, e
	}
	if e = fill(i); e == api.OK {
		e = m.put(p, content{kind: api.Frame, image: i})
	}
	if e != api.OK {
		m.room[i.zone]++
		return nil, e
	}
	return i, api.OK
}

// ask asks for a page.
func (m *model) ask(p api.Place, write bool) (*image, api.Errno) {
	x := m.procs[p.Proc]
	a, ok := x.find(p.Page)
	if !ok || write && !a.Write {
		return nil, api.ErrDenied
	}
	i, e := m.come(p, a)
	if e != api.OK || !write || a.Kind == api.Shared || !i.filed && len(m.whoHas(i)) == 1 {
		return i, e
	}
	return m.bring(p, func(to *image) api.Errno {
		to.bytes = i.bytes
		return api.OK
	})
}

// come is what is asked of a page by what it has.
func (m *model) come(p api.Place, a api.Area) (*image, api.Errno) {
	c := m.procs[p.Proc].pages[p.Page]
	switch c.kind {
	case api.Lost:
		m.tell(p.Proc, 64*p.Page)
		return nil, api.ErrPoison
	case api.Frame:
		return c.image, api.OK
	case api.Slot:
		return m.fromSlot(p, c.slot)
	}
	if a.Kind == api.Own {
		return m.bring(p, func(*image) api.Errno { return api.OK })
	}
	return m.fromFile(p, cache.Key{File: a.File, Page: a.Off + p.Page - a.From})
}

func (m *model) fromSlot(p api.Place, slot int) (*image, api.Errno) {
	who := m.whoHolds(slot)
	i, e := m.bring(p, func(i *image) api.Errno {
		i.bytes = m.slots[slot]
		return m.work()
	})
	if e != api.OK {
		return nil, e
	}
	for _, q := range who {
		m.put(q, content{kind: api.Frame, image: i})
	}
	return i, api.OK
}

func (m *model) fromFile(p api.Place, k cache.Key) (*image, api.Errno) {
	if i := m.files[k]; i != nil {
		return i, m.put(p, content{kind: api.Frame, image: i})
	}
	i, e := m.bring(p, func(i *image) api.Errno {
		i.filed, i.key, i.bytes = true, k, m.disk[k]
		return m.work()
	})
	if e == api.OK {
		m.files[k] = i
	}
	return i, e
}

func (m *model) spawn(n int) api.Errno {
	switch {
	case n < 0 || n > 7:
		return api.ErrArg
	case m.procs[n] != nil:
		return api.ErrThere
	case m.room[api.Normal] == 0:
		return api.ErrFull
	}
	m.room[api.Normal]--
	m.procs[n] = &proc{pages: map[int]content{}}
	return api.OK
}

func (m *model) exit(n int) api.Errno {
	x := m.procs[n]
	if x == nil {
		return api.ErrNone
	}
	m.room[api.Normal] += x.tables()
	delete(m.procs, n)
	gone := map[*image]bool{}
	for _, c := range x.pages {
		gone[c.image] = true
	}
	for i := range gone {
		m.settle(i)
	}
	return api.OK
}

func (m *model) fork(from, to int) api.Errno {
	x := m.procs[from]
	switch {
	case x == nil:
		return api.ErrNone
	case to < 0 || to > 7:
		return api.ErrArg
	case m.procs[to] != nil:
		return api.ErrThere
	case m.room[api.Normal] < x.tables():
		return api.ErrFull
	}
	m.room[api.Normal] -= x.tables()
	y := &proc{areas: slices.Clone(x.areas), pages: map[int]content{}}
	for page, c := range x.pages {
		y.pages[page] = c
	}
	m.procs[to] = y
	return api.OK
}

// change is what a call of layer 17 does to the areas of a process.
func (m *model) change(n int, call func(list []api.Area) ([]api.Area, api.Errno)) api.Errno {
	x := m.procs[n]
	if x == nil {
		return api.ErrNone
	}
	list, e := call(x.areas)
	if e == api.OK {
		x.areas = list
	}
	return e
}

func (m *model) unmap(n, from, pages int) api.Errno {
	e := m.change(n, func(list []api.Area) ([]api.Area, api.Errno) { return area.Cut(list, from, pages) })
	if e != api.OK {
		return e
	}
	for page := from; page < from+pages; page++ {
		m.put(api.Place{Proc: n, Page: page}, content{})
	}
	return api.OK
}

// way answers where the bytes of a load or a store are: for each one its frame, and which
// byte of it it is.
func (m *model) way(n, at, many int, write bool) (images []*image, places []int, e api.Errno) {
	if m.procs[n] == nil {
		return nil, nil, api.ErrNone
	}
	if many < 0 || many > 64 || at < 0 || at > 262144 || at+many > 262144 {
		return nil, nil, api.ErrArg
	}
	for k := at; k < at+many; k++ {
		i := (*image)(nil)
		if k > at && k%64 != 0 {
			i = images[len(images)-1]
		} else if i, e = m.ask(api.Place{Proc: n, Page: k / 64}, write); e != api.OK {
			return nil, nil, e
		}
		images, places = append(images, i), append(places, k%64)
	}
	return images, places, api.OK
}

func (m *model) load(n, at, many int) ([]byte, api.Errno) {
	images, places, e := m.way(n, at, many, false)
	var b []byte
	for k, i := range images {
		b = append(b, i.bytes[places[k]])
	}
	return b, e
}

func (m *model) store(n, at int, b []byte) api.Errno {
	images, places, e := m.way(n, at, len(b), true)
	for k, i := range images {
		i.bytes[places[k]] = b[k]
		i.dirty = i.dirty || i.filed
	}
	return e
}

func (m *model) tell(n, at int) {
	if x := m.procs[n]; x != nil && len(x.signals) < 16 {
		x.signals = append(x.signals, at)
	}
}

func (m *model) signal(n int) (api.Sig, api.Errno) {
	x := m.procs[n]
	if x == nil || len(x.signals) == 0 {
		return api.Sig{}, api.ErrNone
	}
	at := x.signals[0]
	x.signals = x.signals[1:]
	return api.Sig{Proc: n, At: at}, api.OK
}
