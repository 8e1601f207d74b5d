package pool

import (
	"bytes"
	"fmt"
	"math"
	"math/rand"
	"slices"
	"testing"

	"granary/api"
)

func TestExamples(t *testing.T) {
	s := newShelf("a", "b", "c")
	p := made(t, s, 2)
	get(t, p, 1, "a")
	s.want(t, "load 1 a")
	get(t, p, 1, "a")
	s.want(t)
	get(t, p, 2, "b")
	get(t, p, 3, "c")
	s.want(t, "load 2 b", "load 3 c")
	wantLen(t, p, 2)

	p.Put(2, []byte("B"))
	wantLen(t, p, 2, 2)
	evict(t, p, 3, api.OK)
	s.want(t)
	evict(t, p, 2, api.OK)
	s.want(t, "save 2 B")
	evict(t, p, 0, api.ErrNone)

	pin(t, p, 1, 2)
	get(t, p, 3, "c")
	wantLen(t, p, 2)
	wantErrno(t, p.Unpin(9), api.ErrNone)
	if b, errno := p.Get(9); len(b) != 0 || errno != api.ErrBad {
		t.Fatalf("Get(9): %q %v", b, errno)
	}
	s.want(t, "load 1 a", "load 2 B", "load 3 c", "load 9 -")
}

// P13.1

func TestNew(t *testing.T) {
	for _, most := range []int{math.MinInt, -1, 0, 4097, math.MaxInt} {
		if p, errno := New(newShelf(), most); p != nil || errno != api.ErrArg {
			t.Errorf("New(%d): %v %v", most, p, errno)
		}
	}
	for _, most := range []int{1, 2, 4096} {
		s := newShelf("a")
		p := made(t, s, most)
		wantLen(t, p, 0)
		evict(t, p, 0, api.ErrNone)
		s.want(t)
	}
}

func TestMost(t *testing.T) {
	for _, most := range []int{1, 2, 3, 100, 4095, 4096} {
		p := made(t, newShelf(), most)
		for id := range uint64(most) {
			p.Put(id, nil)
		}
		wantErrno(t, p.Clean(0), api.OK)
		if p.Len() != most {
			t.Fatalf("%d of %d", p.Len(), most)
		}
		p.Put(math.MaxUint64, nil)
		if p.Len() != most {
			t.Fatalf("%d of %d behind one more", p.Len(), most)
		}
		wantErrno(t, p.Clean(0), api.ErrNone)
	}
}

// P13.2

func TestGet(t *testing.T) {
	s := newShelf("a", "", "c")
	p := made(t, s, 2)
	get(t, p, 2, "")
	get(t, p, 2, "")
	s.want(t, "load 2 ")
	for range 2 {
		if b, errno := p.Get(0); b != nil || errno != api.ErrBad {
			t.Fatalf("Get(0): %q %v", b, errno)
		}
	}
	s.want(t, "load 0 -", "load 0 -")
	wantLen(t, p, 1)
	s.has[math.MaxUint64] = "z"
	get(t, p, math.MaxUint64, "z")
	get(t, p, 1, "a")
	wantLen(t, p, 2)
}

// What comes beside an error is nothing, and doesn't come.
func TestGetBesideError(t *testing.T) {
	p := made(t, odd{}, 2)
	if b, errno := p.Get(1); b != nil || errno != api.ErrDown {
		t.Fatalf("%q %v", b, errno)
	}
	wantErrno(t, p.Pin(1), api.ErrDown)
	wantLen(t, p, 0)
}

// odd is a back that answers bytes beside its error.
type odd struct{}

func (odd) Load(uint64) ([]byte, api.Errno) { return []byte("x"), api.ErrDown }
func (odd) Save(uint64, []byte) api.Errno   { return api.ErrDown }

func TestGetUses(t *testing.T) {
	s := newShelf("a", "b", "c", "d")
	p := made(t, s, 3)
	get(t, p, 1, "a")
	get(t, p, 2, "b")
	get(t, p, 3, "c")
	evict(t, p, 1, api.OK)
	get(t, p, 2, "b")
	evict(t, p, 3, api.OK)
	evict(t, p, 2, api.OK)
}

// What has just come may itself be the one that goes; its bytes are answered all the same.
func TestGetGoesAtOnce(t *testing.T) {
	s := newShelf("a", "b", "c")
	p := made(t, s, 2)
	pin(t, p, 1, 2)
	get(t, p, 3, "c")
	get(t, p, 3, "c")
	s.want(t, "load 1 a", "load 2 b", "load 3 c", "load 3 c")
	p.Put(3, []byte("C"))
	s.want(t, "save 3 C")
	wantLen(t, p, 2)
	get(t, p, 3, "C")
}

func TestPut(t *testing.T) {
	s := newShelf("a", "b", "c")
	p := made(t, s, 2)
	p.Put(1, []byte("A"))
	s.want(t)
	wantLen(t, p, 1, 1)
	get(t, p, 1, "A")
	p.Put(1, nil)
	get(t, p, 1, "")
	s.want(t)
	get(t, p, 2, "b")
	p.Put(2, []byte("B"))
	wantLen(t, p, 2, 1, 2)
	get(t, p, 3, "c")
	s.want(t, "load 2 b", "load 3 c", "save 1 ")
	wantLen(t, p, 2, 2)
	get(t, p, 1, "")
}

// A put is a use, of what is there already too.
func TestPutUses(t *testing.T) {
	p := made(t, newShelf("a", "b", "c"), 3)
	get(t, p, 1, "a")
	get(t, p, 2, "b")
	get(t, p, 3, "c")
	evict(t, p, 1, api.OK)
	p.Put(2, nil)
	p.Put(9, nil)
	evict(t, p, 3, api.OK)
	evict(t, p, 2, api.OK)
}

func TestDrop(t *testing.T) {
	s := newShelf("a", "b")
	p := made(t, s, 2)
	p.Drop(1)
	p.Put(1, []byte("A"))
	pin(t, p, 2, 2)
	p.Drop(1)
	p.Drop(2)
	p.Drop(3)
	wantLen(t, p, 0)
	s.want(t, "load 2 b")
	get(t, p, 1, "a")
	get(t, p, 2, "b")
	wantErrno(t, p.Unpin(2), api.ErrNone)
	wantLen(t, p, 2)
}

// Wherever the hand stands, and whatever is dropped: it stays at its thing, or goes to the one behind.
func TestDropAndHand(t *testing.T) {
	for n := 1; n <= 5; n++ {
		for hand := range n {
			for drop := range n {
				p := unused(t, n, hand)
				p.Drop(uint64(drop))
				for i := range n {
					if id := (hand + i) % n; id != drop {
						evict(t, p, uint64(id), api.OK)
					}
				}
				evict(t, p, 0, api.ErrNone)
			}
		}
	}
}

// unused answers a pool with the things 0 to n - 1, none of them used or dirty, and its hand.
func unused(t *testing.T, n, hand int) *Pool {
	t.Helper()
	p := made(t, newShelf(), max(n, 1))
	for id := range uint64(n) {
		p.Put(id, nil)
		p.row[id].used, p.row[id].dirty = false, false
	}
	p.hand = hand
	return p
}

// What comes stands at the row's end, wherever the hand stands.
func TestComesAtTheEnd(t *testing.T) {
	for hand := range 4 {
		p := unused(t, 4, hand)
		p.most = 9
		p.Put(7, nil)
		p.row[4].used = false
		ids := []uint64{0, 1, 2, 3, 7}
		for i := range ids {
			evict(t, p, ids[(hand+i)%5], api.OK)
		}
	}
}

// P13.3

func TestPin(t *testing.T) {
	s := newShelf("a", "b", "c")
	p := made(t, s, 1)
	wantErrno(t, p.Pin(9), api.ErrBad)
	wantErrno(t, p.Unpin(9), api.ErrNone)
	wantLen(t, p, 0)
	pin(t, p, 1, 2, 1, 3)
	s.want(t, "load 9 -", "load 1 a", "load 2 b", "load 3 c")
	wantLen(t, p, 3)
	evict(t, p, 0, api.ErrBusy)
	unpin(t, p, 1)
	wantLen(t, p, 3)
	unpin(t, p, 1)
	wantLen(t, p, 2)
	wantErrno(t, p.Unpin(1), api.ErrNone)
	p.Put(3, []byte("C"))
	wantErrno(t, p.Clean(3), api.OK)
	unpin(t, p, 2)
	wantLen(t, p, 1)
	unpin(t, p, 3)
	wantErrno(t, p.Unpin(3), api.ErrNone)
	wantLen(t, p, 1)
	s.want(t, "save 3 C")
}

// What is pinned is pinned ahead of making room: something else goes, or nothing.
func TestPinAheadOfRoom(t *testing.T) {
	p := made(t, newShelf("a", "b", "c"), 1)
	get(t, p, 1, "a")
	pin(t, p, 2)
	wantErrno(t, p.Unpin(1), api.ErrNone)
	wantErrno(t, p.Clean(1), api.ErrNone)
	wantErrno(t, p.Clean(2), api.OK)
	pin(t, p, 3)
	wantLen(t, p, 2)
}

// What was pinned when the hand passed was used all the same, as long as nothing else has used it up.
func TestPinUses(t *testing.T) {
	p := made(t, newShelf("a", "b", "c"), 3)
	pin(t, p, 1)
	get(t, p, 2, "b")
	get(t, p, 3, "c")
	evict(t, p, 2, api.OK)
	unpin(t, p, 1)
	evict(t, p, 3, api.OK)
	evict(t, p, 1, api.OK)

	p = unused(t, 3, 0)
	pin(t, p, 0)
	unpin(t, p, 0)
	evict(t, p, 1, api.OK)
	p = unused(t, 3, 0)
	p.row[0].pins = 1
	unpin(t, p, 0)
	evict(t, p, 0, api.OK)
}

// P13.4

// Two rounds at most, all pinned: the hand stands where it stood, and what was used still was.
func TestEvictBusy(t *testing.T) {
	for hand := range 3 {
		p := unused(t, 3, hand)
		pin(t, p, 0, 1, 2)
		for range 3 {
			evict(t, p, 0, api.ErrBusy)
		}
		unpin(t, p, 0, 1, 2)
		for i := range 3 {
			evict(t, p, uint64((hand+i)%3), api.OK)
		}
	}
}

func TestEvictRounds(t *testing.T) {
	for n := 1; n <= 5; n++ {
		for hand := range n {
			for free := range n {
				p := unused(t, n, hand)
				for i, at := range p.row {
					at.used = true
					if i != free {
						at.pins = 1
					}
				}
				evict(t, p, uint64(free), api.OK)
				evict(t, p, 0, map[bool]api.Errno{true: api.ErrNone, false: api.ErrBusy}[n == 1])
			}
		}
	}
}

func TestEvictRefused(t *testing.T) {
	p := unused(t, 4, 1)
	s := p.back.(*shelf)
	p.Put(2, []byte("x"))
	p.Put(3, []byte("y"))
	p.row[2].used = false
	s.down[2] = api.ErrFull
	evict(t, p, 1, api.OK)
	for range 3 {
		evict(t, p, 0, api.ErrFull)
		s.want(t, "save 2 x")
		wantLen(t, p, 3, 2, 3)
	}
	get(t, p, 2, "x")
	evict(t, p, 0, api.OK)
	s.down[3] = api.ErrDown
	evict(t, p, 0, api.ErrFull)
	delete(s.down, 2)
	evict(t, p, 2, api.OK)
	evict(t, p, 0, api.ErrDown)
	delete(s.down, 3)
	evict(t, p, 3, api.OK)
	evict(t, p, 0, api.ErrNone)
	s.want(t, "save 2 x", "save 2 x", "save 3 y", "save 3 y")
}

// Room is made till an error; it plays no part in what is answered, and the next call makes it again.
func TestRoomRefused(t *testing.T) {
	s := newShelf("a", "b")
	p := made(t, s, 1)
	for id := uint64(1); id <= 5; id++ {
		s.down[id] = api.ErrFull
	}
	p.Put(3, []byte("x"))
	p.Put(4, []byte("y"))
	p.Put(5, []byte("z"))
	s.want(t, "save 3 x", "save 3 x")
	wantLen(t, p, 3, 3, 4, 5)
	s.down = map[uint64]api.Errno{4: api.ErrFull}
	get(t, p, 1, "a")
	s.want(t, "load 1 a", "save 3 x", "save 4 y")
	wantLen(t, p, 3, 4, 5)
	wantErrno(t, p.Unpin(4), api.ErrNone)
	wantErrno(t, p.Clean(4), api.ErrFull)
	wantLen(t, p, 3, 4, 5)
	s.down = nil
	pin(t, p, 2)
	wantLen(t, p, 1)
	s.want(t, "save 4 y", "load 2 b", "save 4 y", "save 5 z")
}

func TestClean(t *testing.T) {
	s := newShelf("a", "b")
	p := made(t, s, 2)
	wantErrno(t, p.Clean(1), api.ErrNone)
	get(t, p, 1, "a")
	wantErrno(t, p.Clean(1), api.OK)
	s.want(t, "load 1 a")
	p.Put(1, []byte("A"))
	s.down[1] = api.ErrBusy
	wantErrno(t, p.Clean(1), api.ErrBusy)
	wantLen(t, p, 1, 1)
	delete(s.down, 1)
	wantErrno(t, p.Clean(1), api.OK)
	wantErrno(t, p.Clean(1), api.OK)
	wantLen(t, p, 1)
	s.want(t, "save 1 A", "save 1 A")
	evict(t, p, 1, api.OK)
	s.want(t)
}

// Cleaning is no use, moves no hand, and makes no room.
func TestCleanAlone(t *testing.T) {
	p := unused(t, 3, 1)
	p.row[0].dirty, p.row[1].dirty, p.most = true, true, 1
	for id := range uint64(3) {
		wantErrno(t, p.Clean(id), api.OK)
	}
	wantLen(t, p, 3)
	for _, id := range []uint64{1, 2, 0} {
		evict(t, p, id, api.OK)
	}
}

// Nor does Evict let more than one go, nor Drop anything but its own.
func TestEvictOne(t *testing.T) {
	p := unused(t, 5, 0)
	p.most = 1
	evict(t, p, 0, api.OK)
	wantLen(t, p, 4)
	p.Drop(3)
	p.Drop(9)
	wantLen(t, p, 3)
	wantErrno(t, p.Unpin(1), api.ErrNone)
	wantLen(t, p, 3)
}

// P13.5

func TestDirty(t *testing.T) {
	s := newShelf("a")
	p := made(t, s, 9)
	wantLen(t, p, 0)
	get(t, p, 1, "a")
	wantLen(t, p, 1)
	for _, id := range []uint64{math.MaxUint64, 3, 1 << 63, 0, 7} {
		p.Put(id, nil)
	}
	p.Put(3, nil)
	wantLen(t, p, 6, 0, 3, 7, 1<<63, math.MaxUint64)
	p.Drop(7)
	wantErrno(t, p.Clean(0), api.OK)
	wantLen(t, p, 5, 3, 1<<63, math.MaxUint64)
	p.Dirty()[0] = 9
	wantLen(t, p, 5, 3, 1<<63, math.MaxUint64)
}

// P13.6, and all others once more, step by step

func TestBesideAPlainerOne(t *testing.T) {
	for seed := range int64(400) {
		r := rand.New(rand.NewSource(seed))
		s := newShelf("a", "b", "c", "d", "e")
		x := &plain{back: s.like(), most: 1 + r.Intn(5)}
		p := made(t, s, x.most)
		for step := range 300 {
			if r.Intn(4) == 0 {
				id, errno := uint64(r.Intn(8)), api.Errno(max(0, r.Intn(20)-10))
				s.down[id], x.back.down[id] = errno, errno
			}
			call, id, b := r.Intn(8), uint64(r.Intn(8)), []byte(fmt.Sprint(step))
			got, want := one(p, call, id, b), one(x, call, id, b)
			if got != want || story(p) != x.story() || !slices.Equal(s.asked, x.back.asked) {
				t.Fatalf("seed %d, step %d, call %d of %d: %s, not %s\n%s\n%s\n%q\n%q", seed, step, call, id, got, want, story(p), x.story(), s.asked, x.back.asked)
			}
			s.asked, x.back.asked = nil, nil
		}
	}
}

// pools are those that one can be asked of.
type pools interface {
	Get(id uint64) ([]byte, api.Errno)
	Put(id uint64, b []byte)
	Drop(id uint64)
	Pin(id uint64) api.Errno
	Unpin(id uint64) api.Errno
	Evict() (uint64, api.Errno)
	Clean(id uint64) api.Errno
	Dirty() []uint64
	Len() int
}

// one makes a call, and tells its answer, and what Dirty and Len are behind it.
func one(p pools, call int, id uint64, b []byte) string {
	answer := ""
	switch call {
	case 0, 1:
		got, errno := p.Get(id)
		answer = fmt.Sprintf("%q %v", got, errno)
	case 2:
		p.Put(id, b)
	case 3:
		p.Drop(id)
	case 4:
		answer = fmt.Sprint(p.Pin(id))
	case 5:
		answer = fmt.Sprint(p.Unpin(id))
	case 6:
		answer = fmt.Sprint(p.Evict())
	default:
		answer = fmt.Sprint(p.Clean(id))
	}
	return fmt.Sprint(answer, p.Dirty(), p.Len())
}

// A pool whose back refuses no save tells what was put last, or what the back holds.
func TestTellsWhatWasPut(t *testing.T) {
	for seed := range int64(200) {
		r := rand.New(rand.NewSource(seed))
		s := newShelf("a", "b", "c", "d")
		p := made(t, s, 1+r.Intn(4))
		put, pins := map[uint64]string{}, map[uint64]int{}
		for step := range 300 {
			id := uint64(r.Intn(7))
			switch r.Intn(7) {
			case 0, 1:
				put[id] = fmt.Sprint("x", step)
				p.Put(id, []byte(put[id]))
			case 2:
				p.Drop(id)
				delete(put, id)
				delete(pins, id)
			case 3:
				if p.Pin(id) == api.OK {
					pins[id]++
				}
			case 4:
				if p.Unpin(id) == api.OK {
					pins[id]--
				}
			case 5:
				_, _ = p.Evict()
			default:
				_ = p.Clean(id)
			}
			check(t, p, s, put, pins)
		}
	}
}

func check(t *testing.T, p *Pool, s *shelf, put map[uint64]string, pins map[uint64]int) {
	t.Helper()
	pinned := 0
	for _, n := range pins {
		if n > 0 {
			pinned++
		}
	}
	if p.Len() > max(p.most, pinned) {
		t.Fatalf("%d places, %d at most, %d pinned", p.Len(), p.most, pinned)
	}
	for id := range uint64(7) {
		want, ok := put[id]
		if !ok {
			want, ok = s.has[id]
		}
		if b, errno := p.Get(id); string(b) != want || (errno == api.OK) != ok {
			t.Fatalf("Get(%d): %q %v, not %q %v", id, b, errno, want, ok)
		}
	}
}

// What is handed in and answered

// lender is a back that hands out its own memory.
type lender struct{ own []byte }

func (l *lender) Load(uint64) ([]byte, api.Errno)    { return l.own[:1], api.OK }
func (l *lender) Save(id uint64, b []byte) api.Errno { return api.OK }
func overwrite(b []byte)                             { copy(b[:cap(b)], bytes.Repeat([]byte("!"), cap(b))) }

func TestMemory(t *testing.T) {
	l := &lender{own: []byte("ab")}
	p := made(t, l, 2)
	b, _ := p.Get(1)
	overwrite(b)
	if string(l.own) != "ab" {
		t.Fatalf("the back's own bytes are %q", l.own)
	}
	get(t, p, 1, "a")
	overwrite(l.own)
	get(t, p, 1, "a")

	in := []byte("xy")
	p.Put(2, in[:1])
	if string(in) != "xy" {
		t.Fatalf("what was handed in is %q", in)
	}
	overwrite(in)
	b, _ = p.Get(2)
	overwrite(b)
	get(t, p, 2, "x")
}

// A pool keeps no more than its things: none of its lists grows by what has gone.
func TestNothingIsLeft(t *testing.T) {
	p := made(t, newShelf(), 2)
	for id := range uint64(1000) {
		p.Put(id, []byte("x"))
	}
	if len(p.at) != 2 || len(p.row) != 2 || cap(p.row) > 8 {
		t.Fatalf("%d, %d and %d", len(p.at), len(p.row), cap(p.row))
	}
}

// Pools are apart from one another.
func TestTwoPools(t *testing.T) {
	s := newShelf("a")
	p, q := made(t, s, 2), made(t, s, 2)
	p.Put(1, []byte("A"))
	get(t, q, 1, "a")
	wantErrno(t, p.Clean(1), api.OK)
	get(t, q, 1, "a")
	q.Drop(1)
	get(t, q, 1, "A")
}

func TestNil(t *testing.T) {
	var p *Pool
	b, errno := p.Get(1)
	if b != nil || errno != api.ErrState || p.Dirty() != nil || p.Len() != 0 {
		t.Errorf("%v %v %v %d", b, errno, p.Dirty(), p.Len())
	}
	p.Put(1, nil)
	p.Drop(1)
	evict(t, p, 0, api.ErrState)
	for _, errno := range []api.Errno{p.Pin(1), p.Unpin(1), p.Clean(1)} {
		wantErrno(t, errno, api.ErrState)
	}
}

// Many things come and go, each at once.
func TestGreat(t *testing.T) {
	p := made(t, newShelf(), 4096)
	for i := range uint64(60000) {
		p.Put(i*7919%9001, []byte{byte(i)})
	}
	for id := range uint64(9001) {
		if b, errno := p.Get(id); len(b) != 1 || errno != api.OK {
			t.Fatalf("Get(%d): %v %v", id, b, errno)
		}
	}
	if p.Len() != 4096 {
		t.Fatalf("Len %d", p.Len())
	}
}
