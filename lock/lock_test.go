package lock

import (
	"fmt"
	"math"
	"math/rand"
	"slices"
	"strings"
	"testing"

	"granary/api"
)

func TestExamples(t *testing.T) {
	x := New()
	wantTry(t, x, 1, api.OK, shared(5, "a", "c"))
	wantTry(t, x, 2, api.OK, shared(5, "a", "b"))
	wantTry(t, x, 3, api.ErrBusy, own(5, "a", "b"))
	wantTry(t, x, 3, api.OK, own(6, "a", "b"))
	wantTry(t, x, 1, api.ErrBusy, own(5, "a", "b"))
	wantRelease(t, x, 2, api.OK)
	wantTry(t, x, 1, api.OK, own(5, "a", "b"))
	wantHeld(t, x, 1, shared(5, "a", "c"), own(5, "a", "b"))

	wantFree(t, x, 2, api.ErrBusy, shared(5, "a\x00", "a\x01"))
	wantFree(t, x, 2, api.OK, shared(5, "b", "a"))
	wantFree(t, x, 0, api.ErrBusy, shared(6, "a", "b"))
	wantTry(t, x, 0, api.ErrArg, shared(6, "a", "b"))
	wantRelease(t, x, 9, api.ErrNone)
	wantOwners(t, x, 1, 3)
}

// P15.1

// Each lock of a list of them held against each other one.
func TestClash(t *testing.T) {
	var l []api.Lock
	for _, lo := range ends[:9] {
		for _, hi := range ends[:9] {
			for kind := range 4 {
				l = append(l, api.Lock{Space: 5, Span: api.Span{Lo: lo, Hi: hi, Open: kind < 2}, Own: kind%2 == 0})
			}
		}
	}
	for _, a := range l {
		x := New()
		wantTry(t, x, 1, api.OK, a)
		for _, b := range l {
			want := plain{{1, a}}.free(2, locks(b))
			wantFree(t, x, 2, want, b)
			wantFree(t, x, 0, want, b)
			wantFree(t, x, 1, api.OK, b)
			for _, space := range []int{-5, 0, 4, 6, math.MinInt, math.MaxInt} {
				b.Space = space
				wantFree(t, x, 2, api.OK, b)
			}
		}
		wantHeld(t, x, 1, a)
		wantOwners(t, x, 1)
	}
}

func TestFreeOfAll(t *testing.T) {
	x := New()
	wantFree(t, x, 0, api.OK, api.Lock{Span: all, Own: true})
	wantFree(t, x, 1, api.OK, api.Lock{Span: all, Own: true})
	wantTry(t, x, 1, api.OK, api.Lock{Span: all})
	wantFree(t, x, 2, api.OK, api.Lock{Span: all})
	wantFree(t, x, 2, api.ErrBusy, own(0, "\xff", "\xff\x00"))
	wantFree(t, x, 2, api.OK, own(0, "a", "a"))
	wantFree(t, x, 2, api.OK, own(0, "", ""))
	wantFree(t, x, 2, api.ErrBusy, own(0, "", "\x00"))
}

// Whichever lock of the list clashes, with whichever of whichever owner.
func TestFreeFindsEach(t *testing.T) {
	x := New()
	for owner := range uint64(5) {
		for at := range 3 {
			wantTry(t, x, owner+1, api.OK, own(int(owner)*3+at, "a", "b"))
		}
	}
	for space := range 15 {
		for place := range 4 {
			l := locks(shared(15, "a", "b"), shared(16, "a", "b"), shared(17, "a", "b"))
			l = slices.Insert(l, place, shared(space, "a", "a\x00"))
			wantFree(t, x, 9, api.ErrBusy, l...)
			wantFree(t, x, 0, api.ErrBusy, l...)
			wantFree(t, x, uint64(space/3)+1, api.OK, l...)
			wantFree(t, x, uint64(space/3+1)%5+1, api.ErrBusy, l...)
		}
	}
	wantFree(t, x, 9, api.OK, shared(15, "a", "b"), shared(16, "a", "b"))
	wantOwners(t, x, 1, 2, 3, 4, 5)
}

func TestFreeOfNothing(t *testing.T) {
	x := New()
	wantFree(t, x, 0, api.OK)
	wantTry(t, x, 1, api.OK, api.Lock{Span: all, Own: true})
	wantFree(t, x, 0, api.OK)
	wantFree(t, x, 1, api.OK)
	wantFree(t, x, 2, api.OK)
}

// The locks of one list never clash with one another.
func TestFreeOfItsOwn(t *testing.T) {
	x := New()
	wantFree(t, x, 0, api.OK, own(5, "a", "b"), own(5, "a", "b"), shared(5, "a", "b"))
	wantFree(t, x, 7, api.OK, own(5, "a", "b"), own(5, "a", "b"), shared(5, "a", "b"))
	wantOwners(t, x)
}

func TestFreeOfGreatNumbers(t *testing.T) {
	x := New()
	wantTry(t, x, math.MaxUint64, api.OK, own(math.MinInt, "a", "b"))
	wantTry(t, x, 1<<63, api.OK, own(math.MaxInt, "a", "b"))
	wantFree(t, x, math.MaxUint64, api.ErrBusy, own(math.MaxInt, "a", "b"))
	wantFree(t, x, math.MaxUint64, api.OK, own(math.MinInt, "a", "b"))
	wantFree(t, x, 1<<63, api.ErrBusy, own(math.MinInt, "a", "b"))
	wantFree(t, x, 1, api.ErrBusy, own(math.MinInt, "a", "b"))
	wantFree(t, x, 1, api.OK, own(0, "a", "b"), own(-1, "a", "b"), own(1, "a", "b"))
	wantOwners(t, x, 1<<63, math.MaxUint64)
}

// A key is any byte string, also one that no tree may hold.
func TestFreeOfLongKeys(t *testing.T) {
	x, long := New(), strings.Repeat("k", 1000)
	wantTry(t, x, 1, api.OK, own(5, long, long+"\x00"))
	wantFree(t, x, 2, api.ErrBusy, shared(5, long, long+"\x00"))
	wantFree(t, x, 2, api.OK, shared(5, "", long))
	wantFree(t, x, 2, api.OK, shared(5, long+"\x00", long+"\x01"))
}

// P15.2

func TestTryOfNobody(t *testing.T) {
	x := New()
	wantTry(t, x, 0, api.ErrArg)
	wantTry(t, x, 0, api.ErrArg, shared(5, "a", "b"))
	wantTry(t, x, 1, api.OK, own(5, "a", "b"))
	wantTry(t, x, 0, api.ErrArg, own(5, "a", "b"))
	wantHeld(t, x, 0)
	wantOwners(t, x, 1)
}

func TestTryAllOrNone(t *testing.T) {
	x := New()
	wantTry(t, x, 1, api.OK, own(5, "b", "c"))
	wantTry(t, x, 2, api.OK, shared(5, "a", "b"))
	for place := range 3 {
		l := slices.Insert(locks(shared(5, "a", "b"), own(6, "a", "b")), place, shared(5, "b", "b\x00"))
		wantTry(t, x, 2, api.ErrBusy, l...)
		wantTry(t, x, 3, api.ErrBusy, l...)
		wantHeld(t, x, 2, shared(5, "a", "b"))
		wantHeld(t, x, 3)
		wantFree(t, x, 4, api.OK, own(6, "a", "b"))
	}
	wantOwners(t, x, 1, 2)
}

func TestTryBehindThose(t *testing.T) {
	x := New()
	a, b, c := own(5, "a", "b"), shared(5, "a", "c"), shared(4, "", "")
	wantTry(t, x, 1, api.OK, c, a)
	wantTry(t, x, 1, api.OK, b, b, a)
	wantTry(t, x, 1, api.OK, a)
	wantHeld(t, x, 1, c, a, b, b, a, a)
	wantTry(t, x, 2, api.ErrBusy, shared(5, "a", "b"))
	wantRelease(t, x, 1, api.OK)
	wantTry(t, x, 2, api.OK, shared(5, "a", "b"))
}

// A lock of no keys at all is had like another one.
func TestTryWithoutKeys(t *testing.T) {
	x := New()
	wantTry(t, x, 1, api.OK, own(5, "b", "a"))
	wantTry(t, x, 2, api.OK, own(5, "b", "a"), own(5, "a", "a"))
	wantHeld(t, x, 1, own(5, "b", "a"))
	wantHeld(t, x, 2, own(5, "b", "a"), own(5, "a", "a"))
	wantTry(t, x, 3, api.OK, api.Lock{Space: 5, Span: all, Own: true})
	wantOwners(t, x, 1, 2, 3)
}

// Hi isn't looked at where a span is open, and is told again.
func TestTryOpen(t *testing.T) {
	x := New()
	a := api.Lock{Space: 5, Span: api.Span{Lo: "b", Hi: "a", Open: true}, Own: true}
	wantTry(t, x, 1, api.OK, a)
	wantTry(t, x, 2, api.ErrBusy, shared(5, "\xff", "\xff\x00"))
	wantTry(t, x, 2, api.OK, shared(5, "", "b"))
	wantHeld(t, x, 1, a)
}

// P15.3

func TestRelease(t *testing.T) {
	x := New()
	wantRelease(t, x, 0, api.ErrNone)
	wantRelease(t, x, 1, api.ErrNone)
	wantTry(t, x, 1, api.OK, own(5, "a", "b"), own(6, "a", "b"))
	wantTry(t, x, 1, api.OK, own(7, "a", "b"))
	wantTry(t, x, 2, api.OK, own(8, "a", "b"))
	wantRelease(t, x, 0, api.ErrNone)
	wantRelease(t, x, 3, api.ErrNone)
	wantRelease(t, x, 1, api.OK)
	wantRelease(t, x, 1, api.ErrNone)
	wantHeld(t, x, 1)
	wantHeld(t, x, 2, own(8, "a", "b"))
	wantFree(t, x, 3, api.OK, own(5, "a", "b"), own(6, "a", "b"), own(7, "a", "b"))
	wantFree(t, x, 3, api.ErrBusy, own(8, "a", "b"))
	wantTry(t, x, 1, api.OK, shared(9, "a", "b"))
	wantHeld(t, x, 1, shared(9, "a", "b"))
	wantOwners(t, x, 1, 2)
}

func TestNothingIsHadByNobody(t *testing.T) {
	x := New()
	wantTry(t, x, 1, api.OK)
	if errno := x.Try(1, []api.Lock{}); errno != api.OK {
		t.Fatal(errno)
	}
	wantHeld(t, x, 1)
	wantOwners(t, x)
	wantRelease(t, x, 1, api.ErrNone)
	wantTry(t, x, 2, api.OK, own(5, "a", "b"))
	wantTry(t, x, 2, api.OK)
	wantTry(t, x, 1, api.OK)
	wantHeld(t, x, 2, own(5, "a", "b"))
	wantOwners(t, x, 2)
}

func TestOwnersRise(t *testing.T) {
	x, r := New(), rand.New(rand.NewSource(1))
	var want []uint64
	for at := range uint64(100) {
		want = append(want, 1+at*(math.MaxUint64/100))
	}
	for _, at := range r.Perm(100) {
		wantTry(t, x, want[at], api.OK, shared(5, "a", "b"))
	}
	for range 10 {
		wantOwners(t, x, want...)
	}
	for _, at := range []int{99, 50, 0} {
		wantRelease(t, x, want[at], api.OK)
		want = slices.Delete(want, at, at+1)
		wantOwners(t, x, want...)
	}
}

func TestAnswersAreNew(t *testing.T) {
	x := New()
	a, b := own(5, "a", "b"), shared(6, "c", "d")
	wantTry(t, x, 1, api.OK, a, b)
	wantTry(t, x, 2, api.OK, own(7, "a", "b"))
	l, other := x.Held(1), x.Held(1)
	if onto(l[0].Span.Lo, other[0].Span.Lo) || onto(l[1].Span.Hi, other[1].Span.Hi) {
		t.Fatal("two answers have a text in common")
	}
	l[0], l[1] = api.Lock{}, api.Lock{}
	l = append(l[:0], own(1, "", ""), own(1, "", ""), own(1, "", ""))
	if !slices.Equal(other, locks(a, b)) {
		t.Fatal(other)
	}
	wantHeld(t, x, 1, a, b)
	wantTry(t, x, 1, api.OK, a)
	if len(l) != 3 || l[2] != own(1, "", "") {
		t.Fatal(l)
	}
	owners := x.Owners()
	owners[0], owners[1] = 9, 9
	wantOwners(t, x, 1, 2)
}

func TestArgumentsAreNotKept(t *testing.T) {
	x := New()
	lo, hi := strings.Clone("a"), strings.Clone("b")
	l := append(make([]api.Lock, 0, 5), own(5, lo, hi), shared(6, "c", "d"))
	spare := l[:5]
	spare[2] = own(9, "y", "z")
	wantTry(t, x, 1, api.OK, l...)
	wantFree(t, x, 2, api.ErrBusy, l...)
	if !slices.Equal(spare, locks(own(5, "a", "b"), shared(6, "c", "d"), own(9, "y", "z"), api.Lock{}, api.Lock{})) {
		t.Fatal(spare)
	}
	clear(spare)
	wantHeld(t, x, 1, own(5, "a", "b"), shared(6, "c", "d"))
	kept := x.held[1][0].Span
	if onto(kept.Lo, lo) || onto(kept.Hi, hi) {
		t.Fatal("a text that was handed in is kept")
	}
	if held := x.Held(1)[0].Span; onto(held.Lo, kept.Lo) || onto(held.Hi, kept.Hi) {
		t.Fatal("a text that is kept is handed out")
	}
}

func TestTablesAreApart(t *testing.T) {
	x, y := New(), New()
	wantTry(t, x, 1, api.OK, own(5, "a", "b"))
	wantTry(t, y, 2, api.OK, own(5, "a", "b"))
	wantOwners(t, x, 1)
	wantOwners(t, y, 2)
	wantRelease(t, y, 1, api.ErrNone)
	wantHeld(t, x, 1, own(5, "a", "b"))
}

func TestNil(t *testing.T) {
	var x *Table
	for _, owner := range []uint64{0, 1, math.MaxUint64} {
		wantFree(t, x, owner, api.ErrState)
		wantFree(t, x, owner, api.ErrState, own(5, "a", "b"))
		wantTry(t, x, owner, api.ErrState)
		wantTry(t, x, owner, api.ErrState, own(5, "a", "b"))
		wantRelease(t, x, owner, api.ErrState)
		wantHeld(t, x, owner)
	}
	wantOwners(t, x)
}

// P15.4

// Steps by chance beside a plainer table: what all calls answer, and that no two locks of two owners ever clash.
func TestWalks(t *testing.T) {
	counts := map[string]int{}
	for seed := range int64(150) {
		r := rand.New(rand.NewSource(seed))
		x, p := New(), plain{}
		for range 60 {
			owner := uint64(r.Intn(6))
			what := step(t, r, x, &p, owner)
			counts[what]++
			wantSame(t, x, p)
			wantApart(t, x)
		}
	}
	for _, what := range []string{"free 0", "free 9", "try 0", "try 1", "try 9", "release 0", "release 5"} {
		if counts[what] < 100 {
			t.Errorf("%s: %d times", what, counts[what])
		}
	}
}

// step does one thing by chance to both tables, and tells which.
func step(t *testing.T, r *rand.Rand, x *Table, p *plain, owner uint64) string {
	t.Helper()
	l := listOf(r)
	before := slices.Clone(l)
	what, got, want := "", api.OK, api.OK
	switch r.Intn(8) {
	case 0:
		what, got, want = "release", x.Release(owner), p.release(owner)
	case 1, 2, 3:
		what, got, want = "free", x.Free(owner, l), p.free(owner, l)
	default:
		what, got, want = "try", x.Try(owner, l), p.try(owner, l)
	}
	if got != want {
		t.Fatalf("%s of %d, %s: %d, not %d", what, owner, told(l), got, want)
	}
	if !slices.Equal(l, before) {
		t.Fatalf("%s changed its list", what)
	}
	return fmt.Sprint(what, " ", int(got))
}

// What was answered is answered again by a table to which the same was done.
func TestSameAgain(t *testing.T) {
	for seed := range int64(20) {
		one, two := New(), New()
		for _, x := range []*Table{one, two} {
			r := rand.New(rand.NewSource(seed))
			for range 100 {
				x.Try(uint64(r.Intn(6)), listOf(r))
			}
		}
		wantOwners(t, two, one.Owners()...)
		for owner := range uint64(6) {
			wantHeld(t, two, owner, one.Held(owner)...)
		}
	}
}
