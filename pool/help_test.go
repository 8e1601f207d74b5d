package pool

import (
	"maps"
	"slices"
	"strconv"
	"strings"
	"testing"

	"granary/api"
)

// shelf is a back that writes down what it is asked, and refuses what it is told to.
type shelf struct {
	has   map[uint64]string
	down  map[uint64]api.Errno // of the numbers that Save refuses
	asked []string
}

func newShelf(texts ...string) *shelf {
	s := &shelf{has: map[uint64]string{}, down: map[uint64]api.Errno{}}
	for i, text := range texts {
		s.has[uint64(i+1)] = text
	}
	return s
}

func (s *shelf) Load(id uint64) ([]byte, api.Errno) {
	text, ok := s.has[id]
	if !ok {
		s.note("load", id, "-")
		return nil, api.ErrBad
	}
	s.note("load", id, text)
	return []byte(text), api.OK
}

func (s *shelf) Save(id uint64, b []byte) api.Errno {
	s.note("save", id, string(b))
	if errno := s.down[id]; errno != api.OK {
		return errno
	}
	s.has[id] = string(b)
	return api.OK
}

func (s *shelf) note(what string, id uint64, text string) {
	s.asked = append(s.asked, what+" "+strconv.FormatUint(id, 10)+" "+text)
}

// like answers a shelf that holds and refuses the same.
func (s *shelf) like() *shelf {
	return &shelf{has: maps.Clone(s.has), down: maps.Clone(s.down)}
}

// want fails unless the shelf was asked just this since it was looked at last.
func (s *shelf) want(t *testing.T, asked ...string) {
	t.Helper()
	if !slices.Equal(s.asked, asked) {
		t.Fatalf("asked %q, not %q", s.asked, asked)
	}
	s.asked = nil
}

func made(t *testing.T, b Back, most int) *Pool {
	t.Helper()
	p, errno := New(b, most)
	if errno != api.OK || p == nil {
		t.Fatalf("New(%d): %v %v", most, p, errno)
	}
	return p
}

func get(t *testing.T, p *Pool, id uint64, text string) {
	t.Helper()
	if b, errno := p.Get(id); string(b) != text || errno != api.OK {
		t.Fatalf("Get(%d): %q %v, not %q", id, b, errno, text)
	}
}

func pin(t *testing.T, p *Pool, ids ...uint64) {
	t.Helper()
	for _, id := range ids {
		wantErrno(t, p.Pin(id), api.OK)
	}
}

func unpin(t *testing.T, p *Pool, ids ...uint64) {
	t.Helper()
	for _, id := range ids {
		wantErrno(t, p.Unpin(id), api.OK)
	}
}

func evict(t *testing.T, p *Pool, id uint64, errno api.Errno) {
	t.Helper()
	if gotID, got := p.Evict(); gotID != id || got != errno {
		t.Fatalf("Evict: %d %v, not %d %v", gotID, got, id, errno)
	}
}

func wantErrno(t *testing.T, got, want api.Errno) {
	t.Helper()
	if got != want {
		t.Fatalf("errno %v, not %v", got, want)
	}
}

func wantLen(t *testing.T, p *Pool, n int, dirty ...uint64) {
	t.Helper()
	if p.Len() != n || !slices.Equal(p.Dirty(), dirty) {
		t.Fatalf("Len %d, Dirty %v, not %d, %v", p.Len(), p.Dirty(), n, dirty)
	}
}

// cell is a place of the plainer pool.
type cell struct {
	id          uint64
	text        string
	dirty, used bool
	pins        int
}

// plain is a pool whose hand is always at the first of its cells: they are turned round, and end tells which of them is the row's last one.
type plain struct {
	back  *shelf
	most  int
	cells []cell
	end   int // so many cells stand from the hand to the row's end
}

func (x *plain) cell(id uint64) int {
	return slices.IndexFunc(x.cells, func(c cell) bool { return c.id == id })
}

// come puts a new cell behind the row's last one, which isn't the last one from the hand on.
func (x *plain) come(c cell) int {
	x.cells = slices.Insert(x.cells, x.end, c)
	x.end++
	return x.end - 1
}

// turn lets the hand go one on.
func (x *plain) turn() {
	x.cells = append(x.cells[1:], x.cells[0])
	x.end--
	if x.end == 0 {
		x.end = len(x.cells)
	}
}

func (x *plain) out(i int) {
	x.cells = slices.Delete(x.cells, i, i+1)
	if i < x.end {
		x.end--
	}
	if x.end == 0 {
		x.end = len(x.cells)
	}
}

func (x *plain) goes() (uint64, api.Errno) {
	for range 2 * len(x.cells) {
		c := &x.cells[0]
		if c.pins > 0 || c.used {
			c.used = c.used && c.pins > 0
			x.turn()
			continue
		}
		id := c.id
		if errno := x.Clean(id); errno != api.OK {
			return 0, errno
		}
		x.out(0)
		return id, api.OK
	}
	return 0, api.ErrBusy
}

func (x *plain) room() {
	errno := api.OK
	for len(x.cells) > x.most && errno == api.OK {
		_, errno = x.goes()
	}
}

func (x *plain) find(id uint64) (int, api.Errno) {
	if i := x.cell(id); i >= 0 {
		return i, api.OK
	}
	b, errno := x.back.Load(id)
	if errno != api.OK {
		return 0, errno
	}
	return x.come(cell{id: id, text: string(b)}), api.OK
}

func (x *plain) Get(id uint64) ([]byte, api.Errno) {
	i, errno := x.find(id)
	if errno != api.OK {
		return nil, errno
	}
	x.cells[i].used = true
	text := x.cells[i].text
	x.room()
	return []byte(text), api.OK
}

func (x *plain) Put(id uint64, b []byte) {
	i := x.cell(id)
	if i < 0 {
		i = x.come(cell{id: id})
	}
	c := &x.cells[i]
	c.text, c.used, c.dirty = string(b), true, true
	x.room()
}

func (x *plain) Drop(id uint64) {
	if i := x.cell(id); i >= 0 {
		x.out(i)
	}
}

func (x *plain) Pin(id uint64) api.Errno {
	i, errno := x.find(id)
	if errno != api.OK {
		return errno
	}
	x.cells[i].used = true
	x.cells[i].pins++
	x.room()
	return api.OK
}

func (x *plain) Unpin(id uint64) api.Errno {
	i := x.cell(id)
	if i < 0 || x.cells[i].pins == 0 {
		return api.ErrNone
	}
	x.cells[i].pins--
	x.room()
	return api.OK
}

func (x *plain) Evict() (uint64, api.Errno) {
	if len(x.cells) == 0 {
		return 0, api.ErrNone
	}
	return x.goes()
}

func (x *plain) Clean(id uint64) api.Errno {
	i := x.cell(id)
	if i < 0 {
		return api.ErrNone
	}
	if !x.cells[i].dirty {
		return api.OK
	}
	errno := x.back.Save(id, []byte(x.cells[i].text))
	x.cells[i].dirty = errno != api.OK
	return errno
}

func (x *plain) Dirty() []uint64 {
	var ids []uint64
	for _, c := range x.cells {
		if c.dirty {
			ids = append(ids, c.id)
		}
	}
	slices.Sort(ids)
	return ids
}

func (x *plain) Len() int { return len(x.cells) }

// story tells all that a pool is, from its row's first place on.
func story(p *Pool) string {
	var b strings.Builder
	for i, at := range p.row {
		tell(&b, i == p.hand, cell{id: at.id, text: string(at.bytes), dirty: at.dirty, used: at.used, pins: at.pins})
	}
	return b.String()
}

func (x *plain) story() string {
	var b strings.Builder
	for i := range x.cells {
		k := (i + x.end) % len(x.cells)
		tell(&b, k == 0, x.cells[k])
	}
	return b.String()
}

func tell(b *strings.Builder, hand bool, c cell) {
	if hand {
		b.WriteString(">")
	}
	b.WriteString(strconv.FormatUint(c.id, 10) + "=" + c.text)
	if c.dirty {
		b.WriteString("*")
	}
	if c.used {
		b.WriteString("+")
	}
	b.WriteString(strings.Repeat("^", c.pins) + " ")
}
