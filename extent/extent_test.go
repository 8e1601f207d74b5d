package extent

import (
	"fmt"
	"math"
	"math/rand"
	"slices"
	"testing"

	"granary/api"
)

// far are numbers at which sums of two of them, or differences, wrap.
var far = []int{math.MinInt, math.MinInt + 1, math.MinInt32, -4097, -4096, 4097, math.MaxInt32, math.MaxInt / 2, math.MaxInt - 15, math.MaxInt - 1, math.MaxInt}

// space answers a new space.
func space(t *testing.T, from, to int) *Space {
	t.Helper()
	s, e := New(from, to)
	if e != api.OK || s == nil {
		t.Fatalf("New(%d, %d): %v, %d", from, to, s, e)
	}
	return s
}

// mixed answers New(10, 20) with the holes 11 2, 14 1 and 17 3.
func mixed(t *testing.T) *Space {
	t.Helper()
	s := space(t, 10, 20)
	takes(t, s, 10, 1, api.OK)
	takes(t, s, 13, 1, api.OK)
	takes(t, s, 15, 2, api.OK)
	return s
}

// allocs asks what Alloc answers.
func allocs(t *testing.T, s *Space, n, want int, errno api.Errno) {
	t.Helper()
	if start, e := s.Alloc(n); start != want || e != errno {
		t.Errorf("Alloc(%d): %d, %d, want %d, %d", n, start, e, want, errno)
	}
}

// takes asks what Take answers.
func takes(t *testing.T, s *Space, start, n int, want api.Errno) {
	t.Helper()
	if e := s.Take(start, n); e != want {
		t.Errorf("Take(%d, %d): %d, want %d", start, n, e, want)
	}
}

// frees asks what Free answers.
func frees(t *testing.T, s *Space, start, n int, want api.Errno) {
	t.Helper()
	if e := s.Free(start, n); e != want {
		t.Errorf("Free(%d, %d): %d, want %d", start, n, e, want)
	}
}

// is asks for a space's holes, and for Left, which is all they have.
func is(t *testing.T, s *Space, want ...Hole) {
	t.Helper()
	left := 0
	for _, h := range want {
		left += h.Len
	}
	if got := s.Holes(); !slices.Equal(got, want) || s.Left() != left {
		t.Errorf("Holes %v, Left %d, want %v, %d", got, s.Left(), want, left)
	}
}

func TestExamples(t *testing.T) {
	s := space(t, 10, 20)
	allocs(t, s, 4, 10, api.OK)
	allocs(t, s, 3, 14, api.OK)
	frees(t, s, 10, 4, api.OK)
	is(t, s, Hole{10, 4}, Hole{17, 3})
	allocs(t, s, 5, 0, api.ErrFull)
	allocs(t, s, 3, 10, api.OK)
	takes(t, s, 13, 1, api.OK)
	takes(t, s, 13, 1, api.ErrTwice)
	takes(t, s, 9, 2, api.ErrArg)
	frees(t, s, 10, 4, api.OK)
	frees(t, s, 10, 1, api.ErrTwice)
	if s.Left() != 7 {
		t.Errorf("Left %d, want 7", s.Left())
	}
}

// P4.1

func TestNew(t *testing.T) {
	for _, k := range [][2]int{{0, 1}, {0, 2}, {5, 6}, {10, 20}, {34, 256}, {0, 4095}, {1, 4096}, {4095, 4096}, {0, 4096}} {
		s := space(t, k[0], k[1])
		is(t, s, Hole{k[0], k[1] - k[0]})
		takes(t, s, k[0]-1, 1, api.ErrArg)
		takes(t, s, k[1], 1, api.ErrArg)
		takes(t, s, k[1]-1, 1, api.OK)
		frees(t, s, k[1]-1, 1, api.OK)
		allocs(t, s, k[1]-k[0]+1, 0, api.ErrFull)
		allocs(t, s, k[1]-k[0], k[0], api.OK)
		is(t, s)
	}
}

func TestNewWithoutASector(t *testing.T) {
	for _, at := range []int{0, 1, 5, 4095, 4096} {
		s := space(t, at, at)
		is(t, s)
		allocs(t, s, 1, 0, api.ErrFull)
		allocs(t, s, 0, 0, api.ErrArg)
		for _, start := range []int{at - 1, at, at + 1} {
			takes(t, s, start, 1, api.ErrArg)
			takes(t, s, start, 0, api.ErrArg)
			frees(t, s, start, 1, api.ErrArg)
		}
		is(t, s)
	}
}

func TestNewRefused(t *testing.T) {
	wrong := [][2]int{{-1, 5}, {-1, -1}, {-5, -3}, {-1, 0}, {5, 4}, {1, 0}, {0, -1}, {4096, 4095}, {0, 4097}, {4096, 4097}, {4097, 4097}, {4097, 4096}, {-1, 4097}}
	for _, x := range far {
		wrong = append(wrong, [2]int{0, x}, [2]int{x, 0}, [2]int{x, 4096}, [2]int{x, x})
		for _, y := range far {
			wrong = append(wrong, [2]int{x, y})
		}
	}
	for _, k := range wrong {
		if s, e := New(k[0], k[1]); s != nil || e != api.ErrArg {
			t.Errorf("New(%d, %d): %v, %d, want nil, %d", k[0], k[1], s, e, api.ErrArg)
		}
	}
}

// P4.2

func TestAllocTheLowest(t *testing.T) {
	tests := []struct {
		n, want int
		errno   api.Errno
		left    []Hole
	}{
		{1, 11, api.OK, []Hole{{12, 1}, {14, 1}, {17, 3}}},
		{2, 11, api.OK, []Hole{{14, 1}, {17, 3}}},
		{3, 17, api.OK, []Hole{{11, 2}, {14, 1}}},
		// Six are free in all, but not one behind the other.
		{4, 0, api.ErrFull, []Hole{{11, 2}, {14, 1}, {17, 3}}},
		{6, 0, api.ErrFull, []Hole{{11, 2}, {14, 1}, {17, 3}}},
	}
	for _, k := range tests {
		s := mixed(t)
		allocs(t, s, k.n, k.want, k.errno)
		is(t, s, k.left...)
	}
}

func TestAllocNotTheBestFit(t *testing.T) {
	// The greater hole stands lower, and the one that would fit stands behind it.
	s := space(t, 0, 12)
	takes(t, s, 5, 1, api.OK)
	takes(t, s, 8, 4, api.OK)
	is(t, s, Hole{0, 5}, Hole{6, 2})
	allocs(t, s, 2, 0, api.OK)
	allocs(t, s, 2, 2, api.OK)
	allocs(t, s, 2, 6, api.OK)
	allocs(t, s, 2, 0, api.ErrFull)
	allocs(t, s, 1, 4, api.OK)
	is(t, s)
}

func TestAllocBeginsAgainFromTheFront(t *testing.T) {
	s := space(t, 3, 9)
	allocs(t, s, 2, 3, api.OK)
	allocs(t, s, 2, 5, api.OK)
	frees(t, s, 3, 2, api.OK)
	allocs(t, s, 1, 3, api.OK)
	allocs(t, s, 2, 7, api.OK)
	allocs(t, s, 1, 4, api.OK)
	allocs(t, s, 1, 0, api.ErrFull)
	frees(t, s, 8, 1, api.OK)
	allocs(t, s, 1, 8, api.OK)
	is(t, s)
}

func TestAllocAcrossWhatWasFreedApart(t *testing.T) {
	s := space(t, 10, 16)
	allocs(t, s, 6, 10, api.OK)
	frees(t, s, 13, 1, api.OK)
	frees(t, s, 11, 1, api.OK)
	is(t, s, Hole{11, 1}, Hole{13, 1})
	allocs(t, s, 2, 0, api.ErrFull)
	frees(t, s, 12, 1, api.OK)
	is(t, s, Hole{11, 3})
	allocs(t, s, 3, 11, api.OK)
	is(t, s)
}

func TestAllocRefused(t *testing.T) {
	for _, x := range append([]int{0, -1, -10, 11, 4096}, far...) {
		want := api.ErrFull
		if x < 1 {
			want = api.ErrArg
		}
		s := mixed(t)
		allocs(t, s, x, 0, want)
		is(t, s, Hole{11, 2}, Hole{14, 1}, Hole{17, 3})
		full := space(t, 10, 20)
		allocs(t, full, 10, 10, api.OK)
		allocs(t, full, x, 0, want)
		is(t, full)
	}
}

// P4.3

func TestTake(t *testing.T) {
	whole := []Hole{{10, 10}}
	tests := []struct {
		start, n int
		want     api.Errno
		left     []Hole
	}{
		{10, 1, api.OK, []Hole{{11, 9}}},
		{10, 10, api.OK, nil},
		{10, 9, api.OK, []Hole{{19, 1}}},
		{11, 9, api.OK, []Hole{{10, 1}}},
		{14, 2, api.OK, []Hole{{10, 4}, {16, 4}}},
		{19, 1, api.OK, []Hole{{10, 9}}},
		{10, 0, api.ErrArg, whole},
		{10, -1, api.ErrArg, whole},
		{12, -2, api.ErrArg, whole},
		{20, 0, api.ErrArg, whole},
		{9, 1, api.ErrArg, whole},
		{9, 2, api.ErrArg, whole},
		{9, 12, api.ErrArg, whole},
		{0, 1, api.ErrArg, whole},
		{0, 20, api.ErrArg, whole},
		{-1, 1, api.ErrArg, whole},
		{10, 11, api.ErrArg, whole},
		{11, 10, api.ErrArg, whole},
		{19, 2, api.ErrArg, whole},
		{20, 1, api.ErrArg, whole},
		{21, 1, api.ErrArg, whole},
		{21, -1, api.ErrArg, whole},
	}
	for _, k := range tests {
		s := space(t, 10, 20)
		takes(t, s, k.start, k.n, k.want)
		is(t, s, k.left...)
		if k.want == api.OK {
			// What was taken so is freed so, and nothing else.
			frees(t, s, k.start, k.n, api.OK)
			is(t, s, whole...)
		}
	}
}

func TestFree(t *testing.T) {
	tests := []struct {
		start, n int
		want     api.Errno
		left     []Hole
	}{
		{10, 1, api.OK, []Hole{{10, 1}}},
		{10, 10, api.OK, []Hole{{10, 10}}},
		{14, 2, api.OK, []Hole{{14, 2}}},
		{19, 1, api.OK, []Hole{{19, 1}}},
		{10, 0, api.ErrArg, nil},
		{10, -1, api.ErrArg, nil},
		{20, 0, api.ErrArg, nil},
		{9, 1, api.ErrArg, nil},
		{9, 2, api.ErrArg, nil},
		{9, 12, api.ErrArg, nil},
		{-1, 1, api.ErrArg, nil},
		{10, 11, api.ErrArg, nil},
		{19, 2, api.ErrArg, nil},
		{20, 1, api.ErrArg, nil},
		{21, -1, api.ErrArg, nil},
	}
	for _, k := range tests {
		s := space(t, 10, 20)
		takes(t, s, 10, 10, api.OK)
		frees(t, s, k.start, k.n, k.want)
		is(t, s, k.left...)
	}
}

func TestFreeJoinsHoles(t *testing.T) {
	whole := []Hole{{0, 9}}
	for _, k := range []struct {
		start, n int
		want     []Hole
	}{
		{0, 3, []Hole{{0, 3}}},
		{3, 3, []Hole{{3, 3}}},
		{6, 3, []Hole{{6, 3}}},
	} {
		s := space(t, 0, 9)
		takes(t, s, 0, 9, api.OK)
		frees(t, s, k.start, k.n, api.OK)
		is(t, s, k.want...)
		for _, rest := range []int{0, 3, 6} {
			if rest != k.start {
				frees(t, s, rest, 3, api.OK)
			}
		}
		is(t, s, whole...)
	}
}

func TestTwice(t *testing.T) {
	// Each stretch of mixed's sectors, held against its holes 11 2, 14 1 and 17 3.
	free := func(i int) bool { return i == 11 || i == 12 || i == 14 || i >= 17 }
	for start := 10; start < 20; start++ {
		for n := 1; start+n <= 20; n++ {
			some, all := false, true
			for i := start; i < start+n; i++ {
				some = some || free(i)
				all = all && free(i)
			}
			s := mixed(t)
			if all {
				takes(t, s, start, n, api.OK)
				if s.Left() != 6-n {
					t.Errorf("Left %d behind Take(%d, %d)", s.Left(), start, n)
				}
			} else {
				takes(t, s, start, n, api.ErrTwice)
				is(t, s, Hole{11, 2}, Hole{14, 1}, Hole{17, 3})
			}
			s = mixed(t)
			if some {
				frees(t, s, start, n, api.ErrTwice)
				is(t, s, Hole{11, 2}, Hole{14, 1}, Hole{17, 3})
			} else {
				frees(t, s, start, n, api.OK)
				if s.Left() != 6+n {
					t.Errorf("Left %d behind Free(%d, %d)", s.Left(), start, n)
				}
			}
		}
	}
}

func TestOutsideGoesAheadOfTwice(t *testing.T) {
	s := mixed(t)
	takes(t, s, 10, 11, api.ErrArg)
	takes(t, s, 9, 2, api.ErrArg)
	frees(t, s, 19, 2, api.ErrArg)
	frees(t, s, 9, 3, api.ErrArg)
	takes(t, s, 10, 0, api.ErrArg)
	frees(t, s, 11, 0, api.ErrArg)
	is(t, s, Hole{11, 2}, Hole{14, 1}, Hole{17, 3})
}

func TestTakeAndFreeFarOut(t *testing.T) {
	near := []int{-1, 0, 1, 9, 10, 11, 19, 20, 21, 4095, 4096}
	for _, x := range far {
		for _, y := range append(near, far...) {
			for _, k := range [][2]int{{x, y}, {y, x}} {
				s := mixed(t)
				takes(t, s, k[0], k[1], api.ErrArg)
				frees(t, s, k[0], k[1], api.ErrArg)
				is(t, s, Hole{11, 2}, Hole{14, 1}, Hole{17, 3})
			}
		}
	}
}

// P4.4

func TestHoles(t *testing.T) {
	s := space(t, 10, 20)
	for _, start := range []int{18, 12, 15, 11} {
		takes(t, s, start, 1, api.OK)
	}
	is(t, s, Hole{10, 1}, Hole{13, 2}, Hole{16, 2}, Hole{19, 1})
	takes(t, s, 10, 1, api.OK)
	takes(t, s, 19, 1, api.OK)
	is(t, s, Hole{13, 2}, Hole{16, 2})
	frees(t, s, 11, 2, api.OK)
	is(t, s, Hole{11, 4}, Hole{16, 2})
}

func TestMostHoles(t *testing.T) {
	s := space(t, 0, 4096)
	want := []Hole{}
	for at := 0; at < 4096; at += 2 {
		takes(t, s, at, 1, api.OK)
		want = append(want, Hole{at + 1, 1})
	}
	is(t, s, want...)
	allocs(t, s, 2, 0, api.ErrFull)
	for _, h := range want {
		allocs(t, s, 1, h.Start, api.OK)
	}
	is(t, s)
	frees(t, s, 0, 4096, api.OK)
	is(t, s, Hole{0, 4096})
}

func TestHolesAreNewMemory(t *testing.T) {
	s := space(t, 0, 100)
	for at := 0; at < 100; at += 3 {
		takes(t, s, at, 1, api.OK)
		a, b := s.Holes(), s.Holes()
		want := slices.Clone(a)
		clear(a[:cap(a)])
		if !slices.Equal(b, want) {
			t.Fatalf("%d holes: two answers share memory", len(b))
		}
		clear(b[:cap(b)])
		is(t, s, want...)
	}
}

func TestAskingChangesNothing(t *testing.T) {
	s := mixed(t)
	for range 5 {
		is(t, s, Hole{11, 2}, Hole{14, 1}, Hole{17, 3})
	}
	allocs(t, s, 3, 17, api.OK)
}

func TestNilSpace(t *testing.T) {
	var s *Space
	is(t, s)
	for _, x := range append([]int{-1, 0, 1, 10}, far...) {
		allocs(t, s, x, 0, api.ErrState)
		for _, y := range append([]int{-1, 0, 1, 10}, far...) {
			takes(t, s, x, y, api.ErrState)
			frees(t, s, x, y, api.ErrState)
		}
	}
	is(t, s)
}

func TestSpacesApart(t *testing.T) {
	a, b := space(t, 10, 20), space(t, 10, 20)
	allocs(t, a, 4, 10, api.OK)
	allocs(t, b, 1, 10, api.OK)
	frees(t, a, 10, 2, api.OK)
	is(t, a, Hole{10, 2}, Hole{14, 6})
	is(t, b, Hole{11, 9})
}

// plain is a space as a set of its free sectors.
type plain struct {
	from, to int
	free     map[int]bool
}

// all tells whether n sectors from start on are all of the space.
func (p *plain) all(start, n int) bool { return n >= 1 && start >= p.from && start+n <= p.to }

// count answers how many of n sectors from start on are free.
func (p *plain) count(start, n int) int {
	count := 0
	for i := start; i < start+n; i++ {
		if p.free[i] {
			count++
		}
	}
	return count
}

// set makes n sectors from start on free, or taken.
func (p *plain) set(start, n int, free bool) {
	for i := start; i < start+n; i++ {
		p.free[i] = free
	}
}

// alloc does as Alloc.
func (p *plain) alloc(n int) (int, api.Errno) {
	if n < 1 {
		return 0, api.ErrArg
	}
	for start := p.from; start+n <= p.to; start++ {
		if p.count(start, n) == n {
			p.set(start, n, false)
			return start, api.OK
		}
	}
	return 0, api.ErrFull
}

// turn does as Take, or as Free.
func (p *plain) turn(start, n int, free bool) api.Errno {
	if !p.all(start, n) {
		return api.ErrArg
	}
	wanted := n
	if free {
		wanted = 0
	}
	if p.count(start, n) != wanted {
		return api.ErrTwice
	}
	p.set(start, n, free)
	return api.OK
}

// holes does as Holes.
func (p *plain) holes() []Hole {
	list := []Hole{}
	for i := p.from; i < p.to; i++ {
		switch {
		case !p.free[i]:
		case i > p.from && p.free[i-1]:
			list[len(list)-1].Len++
		default:
			list = append(list, Hole{i, 1})
		}
	}
	return list
}

// step does the same to a space and to its set, and answers how both tell of it.
func step(r *rand.Rand, s *Space, p *plain) (string, string) {
	n, start := r.Intn(7)-1, p.from-1+r.Intn(p.to-p.from+3)
	switch r.Intn(3) {
	case 0:
		a, e := s.Alloc(n)
		b, f := p.alloc(n)
		return fmt.Sprint("Alloc ", n, ": ", a, e), fmt.Sprint("Alloc ", n, ": ", b, f)
	case 1:
		return fmt.Sprint("Take ", start, n, ": ", s.Take(start, n)), fmt.Sprint("Take ", start, n, ": ", p.turn(start, n, false))
	default:
		return fmt.Sprint("Free ", start, n, ": ", s.Free(start, n)), fmt.Sprint("Free ", start, n, ": ", p.turn(start, n, true))
	}
}

func TestAsASetOfSectors(t *testing.T) {
	r := rand.New(rand.NewSource(4))
	for round := range 200 {
		from := r.Intn(50)
		p := &plain{from: from, to: from + r.Intn(40), free: map[int]bool{}}
		p.set(p.from, p.to-p.from, true)
		s := space(t, p.from, p.to)
		for range 200 {
			got, want := step(r, s, p)
			if got != want {
				t.Fatalf("round %d: %s, want %s", round, got, want)
			}
			is(t, s, p.holes()...)
		}
		if t.Failed() {
			t.Fatalf("round %d", round)
		}
	}
}
