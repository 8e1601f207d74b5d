package lock

import (
	"fmt"
	"math/rand"
	"slices"
	"testing"
	"unsafe"

	"granary/api"
)

// all is the span of all keys.
var all = api.Span{Open: true}

// ends are those of the spans by chance: the least key that two such spans have in common is one of them.
var ends = []string{"", "\x00", "a", "a\x00", "a\x00\x00", "a\x01", "ab", "b", "b\xff", "c", "\xff", "\xff\xff"}

// shared and own answer a lock of the keys from lo on, below hi.
func shared(space int, lo, hi string) api.Lock {
	return api.Lock{Space: space, Span: api.Span{Lo: lo, Hi: hi}}
}

func own(space int, lo, hi string) api.Lock {
	return api.Lock{Space: space, Span: api.Span{Lo: lo, Hi: hi}, Own: true}
}

// locks answers a list of locks.
func locks(l ...api.Lock) []api.Lock { return l }

// plain is a table that keeps a row of locks with their owners, and asks key by key.
type plain []had

type had struct {
	owner uint64
	lock  api.Lock
}

// has tells whether a span has a key.
func has(s api.Span, key string) bool { return key >= s.Lo && (s.Open || key < s.Hi) }

// apart tells whether two owners may have these two.
func apart(a, b api.Lock) bool {
	if a.Space != b.Space || !a.Own && !b.Own {
		return true
	}
	return !slices.ContainsFunc(ends, func(key string) bool { return has(a.Span, key) && has(b.Span, key) })
}

func (p plain) free(owner uint64, l []api.Lock) api.Errno {
	for _, h := range p {
		for _, a := range l {
			if h.owner != owner && !apart(h.lock, a) {
				return api.ErrBusy
			}
		}
	}
	return api.OK
}

func (p *plain) try(owner uint64, l []api.Lock) api.Errno {
	if owner == 0 {
		return api.ErrArg
	}
	if errno := p.free(owner, l); errno != api.OK {
		return errno
	}
	for _, a := range l {
		*p = append(*p, had{owner, a})
	}
	return api.OK
}

func (p *plain) release(owner uint64) api.Errno {
	before := len(*p)
	*p = slices.DeleteFunc(*p, func(h had) bool { return h.owner == owner })
	if len(*p) == before {
		return api.ErrNone
	}
	return api.OK
}

func (p plain) held(owner uint64) []api.Lock {
	var l []api.Lock
	for _, h := range p {
		if h.owner == owner {
			l = append(l, h.lock)
		}
	}
	return l
}

func (p plain) owners() []uint64 {
	var l []uint64
	for _, h := range p {
		l = append(l, h.owner)
	}
	slices.Sort(l)
	return slices.Compact(l)
}

// lockOf answers a lock by chance.
func lockOf(r *rand.Rand) api.Lock {
	return api.Lock{
		Space: r.Intn(3) - 1,
		Span:  api.Span{Lo: ends[r.Intn(len(ends))], Hi: ends[r.Intn(len(ends))], Open: r.Intn(12) == 0},
		Own:   r.Intn(3) == 0,
	}
}

// listOf answers a list of locks by chance, with spare room.
func listOf(r *rand.Rand) []api.Lock {
	l := make([]api.Lock, 0, 8)
	for range r.Intn(4) {
		l = append(l, lockOf(r))
	}
	return l
}

// wantFree, wantTry and wantRelease fail unless the call answers this.
func wantFree(t *testing.T, x *Table, owner uint64, want api.Errno, l ...api.Lock) {
	t.Helper()
	if got := x.Free(owner, l); got != want {
		t.Fatalf("Free(%d, %s): %d, not %d", owner, told(l), got, want)
	}
}

func wantTry(t *testing.T, x *Table, owner uint64, want api.Errno, l ...api.Lock) {
	t.Helper()
	if got := x.Try(owner, l); got != want {
		t.Fatalf("Try(%d, %s): %d, not %d", owner, told(l), got, want)
	}
}

func wantRelease(t *testing.T, x *Table, owner uint64, want api.Errno) {
	t.Helper()
	if got := x.Release(owner); got != want {
		t.Fatalf("Release(%d): %d, not %d", owner, got, want)
	}
}

// wantHeld fails unless an owner has just these, and is one of the owners if it has any.
func wantHeld(t *testing.T, x *Table, owner uint64, want ...api.Lock) {
	t.Helper()
	if got := x.Held(owner); !slices.Equal(got, want) {
		t.Fatalf("Held(%d): %s, not %s", owner, told(got), told(want))
	}
	if got := slices.Contains(x.Owners(), owner); got != (len(want) > 0) {
		t.Fatalf("Owners with %d: %v", owner, got)
	}
}

// wantOwners fails unless just these have locks.
func wantOwners(t *testing.T, x *Table, want ...uint64) {
	t.Helper()
	if got := x.Owners(); !slices.Equal(got, want) {
		t.Fatalf("Owners: %d, not %d", got, want)
	}
}

// wantSame fails unless a table tells the same as a plain one.
func wantSame(t *testing.T, x *Table, p plain) {
	t.Helper()
	wantOwners(t, x, p.owners()...)
	for owner := range uint64(6) {
		wantHeld(t, x, owner, p.held(owner)...)
	}
}

// wantApart fails if two locks of two owners clash.
func wantApart(t *testing.T, x *Table) {
	t.Helper()
	owners := x.Owners()
	for at, a := range owners {
		for _, b := range owners[at+1:] {
			for _, of := range x.Held(a) {
				for _, to := range x.Held(b) {
					if !apart(of, to) {
						t.Fatalf("%d has %s, %d has %s", a, told(locks(of)), b, told(locks(to)))
					}
				}
			}
		}
	}
}

// told tells a list of locks.
func told(l []api.Lock) string { return fmt.Sprintf("%+q", fmt.Sprint(l)) }

// onto tells whether two texts lie in the same memory.
func onto(a, b string) bool { return unsafe.StringData(a) == unsafe.StringData(b) }
