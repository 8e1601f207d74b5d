package disk

import (
	"bytes"
	"math"
	"math/rand"
	"strings"
	"testing"

	"granary/api"
)

// disk8 answers a new disk of 8 sectors.
func disk8(t *testing.T) *Disk {
	t.Helper()
	d, e := New(8)
	if e != api.OK || d == nil {
		t.Fatalf("New(8): %v, %d", d, e)
	}
	return d
}

// full is s with zeros behind it, up to a sector.
func full(s string) string { return s + strings.Repeat("\x00", 64-len(s)) }

// spoil writes over an answer and its spare room.
func spoil(b []byte) {
	b = b[:cap(b)]
	for at := range b {
		b[at] = 0xee
	}
}

// holds asks what sector i reads as.
func holds(t *testing.T, d *Disk, i int, want string) {
	t.Helper()
	if b, e := d.Read(i); e != api.OK || string(b) != full(want) {
		t.Errorf("sector %d: %q, %d, want %q", i, b, e, want)
	}
}

// writes asks what Write of these bytes answers.
func writes(t *testing.T, d *Disk, i int, s string, want api.Errno) {
	t.Helper()
	if e := d.Write(i, []byte(s)); e != want {
		t.Errorf("Write(%d, %d bytes): %d, want %d", i, len(s), e, want)
	}
}

// syncs asks what Sync answers.
func syncs(t *testing.T, d *Disk, want api.Errno) {
	t.Helper()
	if e := d.Sync(); e != want {
		t.Errorf("Sync: %d, want %d", e, want)
	}
}

// is asks what P2.5 tells of a disk.
func is(t *testing.T, d *Disk, down bool, waiting, writes, syncs int) {
	t.Helper()
	if d.Down() != down || d.Waiting() != waiting || d.Writes() != writes || d.Syncs() != syncs {
		t.Errorf("Down %v, Waiting %d, Writes %d, Syncs %d, want %v, %d, %d, %d",
			d.Down(), d.Waiting(), d.Writes(), d.Syncs(), down, waiting, writes, syncs)
	}
}

// P2.1

func TestNewSizes(t *testing.T) {
	for _, n := range []int{8, 9, 64, 4095, 4096} {
		d, e := New(n)
		if e != api.OK || d == nil {
			t.Fatalf("New(%d): %d", n, e)
		}
		if d.Size() != n {
			t.Errorf("New(%d): Size %d", n, d.Size())
		}
		is(t, d, false, 0, 0, 0)
		for i := range n {
			holds(t, d, i, "")
		}
		for _, i := range []int{-1, n, n + 1} {
			if b, e := d.Read(i); b != nil || e != api.ErrArg {
				t.Errorf("New(%d), Read(%d): %v, %d", n, i, b, e)
			}
		}
	}
}

func TestNewWrongSizes(t *testing.T) {
	for _, n := range []int{math.MinInt, -8, -1, 0, 1, 7, 4097, 8192, math.MaxInt} {
		if d, e := New(n); d != nil || e != api.ErrArg {
			t.Errorf("New(%d): %v, %d", n, d, e)
		}
	}
}

func TestReadWhatWasWrittenLast(t *testing.T) {
	d := disk8(t)
	writes(t, d, 0, "first", api.OK)
	writes(t, d, 7, "last", api.OK)
	writes(t, d, 3, "\xff\x00\x80", api.OK)
	for range 2 {
		holds(t, d, 0, "first")
		holds(t, d, 7, "last")
		holds(t, d, 3, "\xff\x00\x80")
		holds(t, d, 1, "")
		holds(t, d, 6, "")
		syncs(t, d, api.OK)
	}
	writes(t, d, 0, "second", api.OK)
	holds(t, d, 0, "second")
	writes(t, d, 0, "third", api.OK)
	holds(t, d, 0, "third")
}

func TestNoSuchSector(t *testing.T) {
	d := disk8(t)
	writes(t, d, 0, "a", api.OK)
	for _, i := range []int{math.MinInt, -9, -8, -1, 8, 9, 4096, math.MaxInt} {
		if b, e := d.Read(i); b != nil || e != api.ErrArg {
			t.Errorf("Read(%d): %v, %d", i, b, e)
		}
		writes(t, d, i, "b", api.ErrArg)
	}
	is(t, d, false, 1, 1, 0)
	holds(t, d, 0, "a")
	for i := 1; i < 8; i++ {
		holds(t, d, i, "")
	}
}

func TestReadIsNewMemory(t *testing.T) {
	d := disk8(t)
	writes(t, d, 2, "abc", api.OK)
	for _, kept := range []bool{false, true} {
		if kept {
			syncs(t, d, api.OK)
		}
		a, _ := d.Read(2)
		b, _ := d.Read(2)
		spoil(a)
		if string(b) != full("abc") {
			t.Error("two answers share memory")
		}
		spoil(b)
		for i, want := range []string{"", "", "abc", "", ""} {
			holds(t, d, i, want)
		}
	}
	d.Crash(nil)
	holds(t, d, 2, "abc")
}

func TestDisksApart(t *testing.T) {
	a, b := disk8(t), disk8(t)
	writes(t, a, 1, "a", api.OK)
	a.Fuse(0)
	writes(t, a, 1, "x", api.ErrDown)
	writes(t, b, 1, "b", api.OK)
	syncs(t, b, api.OK)
	is(t, a, true, 1, 1, 0)
	is(t, b, false, 0, 1, 1)
	holds(t, a, 1, "a")
	holds(t, b, 1, "b")
	b.Crash([]int{1})
	is(t, a, true, 1, 1, 0)
}

// P2.2

func TestWriteLengths(t *testing.T) {
	for _, n := range []int{0, 1, 2, 50, 63, 64} {
		d := disk8(t)
		writes(t, d, 4, strings.Repeat("o", 64), api.OK)
		s := strings.Repeat("n", n)
		writes(t, d, 4, s, api.OK)
		holds(t, d, 4, s)
		holds(t, d, 3, "")
		holds(t, d, 5, "")
		is(t, d, false, 2, 2, 0)
		d.Crash([]int{1, 1})
		holds(t, d, 4, s)
	}
}

func TestWriteTooLong(t *testing.T) {
	d := disk8(t)
	writes(t, d, 4, "old", api.OK)
	for _, n := range []int{65, 66, 128, 512} {
		for _, i := range []int{0, 4, 7} {
			writes(t, d, i, strings.Repeat("n", n), api.ErrArg)
		}
	}
	is(t, d, false, 1, 1, 0)
	holds(t, d, 0, "")
	holds(t, d, 4, "old")
	holds(t, d, 5, "")
	holds(t, d, 7, "")
}

func TestWriteNothing(t *testing.T) {
	d := disk8(t)
	for _, b := range [][]byte{nil, {}} {
		writes(t, d, 4, "old", api.OK)
		if e := d.Write(4, b); e != api.OK {
			t.Errorf("Write of nothing: %d", e)
		}
		holds(t, d, 4, "")
	}
	is(t, d, false, 4, 4, 0)
}

func TestWriteCopies(t *testing.T) {
	d := disk8(t)
	whole := []byte("ahead|abc|behind")
	b := whole[6:9]
	if e := d.Write(2, b); e != api.OK {
		t.Fatalf("Write: %d", e)
	}
	if string(whole) != "ahead|abc|behind" {
		t.Errorf("what was handed in is now %q", whole)
	}
	for at := range whole {
		whole[at] = 0xee
	}
	holds(t, d, 2, "abc")
	d.Crash([]int{1})
	holds(t, d, 2, "abc")
	big := bytes.Repeat([]byte("z"), 64)
	if e := d.Write(3, big); e != api.OK {
		t.Fatalf("Write: %d", e)
	}
	clear(big)
	syncs(t, d, api.OK)
	d.Crash(nil)
	holds(t, d, 3, strings.Repeat("z", 64))
}

func TestWritesWaitTillSync(t *testing.T) {
	d := disk8(t)
	writes(t, d, 3, "ab", api.OK)
	is(t, d, false, 1, 1, 0)
	d.Crash([]int{0})
	holds(t, d, 3, "")
	is(t, d, false, 0, 1, 0)
	writes(t, d, 3, "ab", api.OK)
	writes(t, d, 4, "x", api.OK)
	is(t, d, false, 2, 3, 0)
	syncs(t, d, api.OK)
	is(t, d, false, 0, 3, 1)
	writes(t, d, 3, "c", api.OK)
	is(t, d, false, 1, 4, 1)
	holds(t, d, 3, "c")
	d.Crash(nil)
	holds(t, d, 3, "ab")
	holds(t, d, 4, "x")
}

func TestSyncKeepsTheLastOfSeveral(t *testing.T) {
	d := disk8(t)
	for _, s := range []string{"a", "bb", "c"} {
		writes(t, d, 5, s, api.OK)
	}
	syncs(t, d, api.OK)
	syncs(t, d, api.OK)
	is(t, d, false, 0, 3, 2)
	d.Crash([]int{1, 1, 1})
	holds(t, d, 5, "c")
}

func TestSyncWhileThePowerIsGone(t *testing.T) {
	d := disk8(t)
	writes(t, d, 0, "a", api.OK)
	syncs(t, d, api.OK)
	writes(t, d, 0, "b", api.OK)
	d.Fuse(0)
	writes(t, d, 1, "c", api.ErrDown)
	for range 2 {
		syncs(t, d, api.ErrDown)
		is(t, d, true, 1, 2, 1)
	}
	holds(t, d, 0, "b")
	d.Crash(nil)
	holds(t, d, 0, "a")
	syncs(t, d, api.OK)
	is(t, d, false, 0, 2, 2)
}

// P2.3

func TestFuseBurnsDown(t *testing.T) {
	for _, n := range []int{0, 1, 2, 7, 100} {
		d := disk8(t)
		d.Fuse(n)
		for j := range n {
			writes(t, d, j%8, "w", api.OK)
			is(t, d, false, j+1, j+1, 0)
		}
		for range 3 {
			writes(t, d, 6, "behind", api.ErrDown)
			is(t, d, true, n, n, 0)
		}
		if b, e := d.Read(6); e != api.OK || bytes.HasPrefix(b, []byte("behind")) {
			t.Errorf("Fuse(%d): sector 6 is %q, %d", n, b, e)
		}
	}
}

func TestFuseCountsWritesAlone(t *testing.T) {
	d := disk8(t)
	d.Fuse(1)
	for range 3 {
		syncs(t, d, api.OK)
		holds(t, d, 0, "")
		if b, e := d.Read(8); b != nil || e != api.ErrArg {
			t.Errorf("Read(8): %v, %d", b, e)
		}
	}
	writes(t, d, 0, "a", api.OK)
	for range 3 {
		syncs(t, d, api.OK)
		holds(t, d, 0, "a")
	}
	is(t, d, false, 0, 1, 6)
	writes(t, d, 0, "b", api.ErrDown)
	is(t, d, true, 0, 1, 6)
}

func TestWrongWritesDontBurnTheFuse(t *testing.T) {
	long := strings.Repeat("l", 65)
	d := disk8(t)
	d.Fuse(1)
	for _, down := range []bool{false, false, true} {
		for range 3 {
			writes(t, d, 8, "a", api.ErrArg)
			writes(t, d, -1, "a", api.ErrArg)
			writes(t, d, 0, long, api.ErrArg)
		}
		if d.Down() != down {
			t.Errorf("Down %v behind wrong writes, want %v", d.Down(), down)
		}
		d.Write(2, []byte("right"))
	}
	is(t, d, true, 1, 1, 0)
}

func TestNoFuse(t *testing.T) {
	for _, n := range []int{-1, -2, math.MinInt, math.MaxInt} {
		for _, earlier := range []int{-1, 0, 3} {
			d := disk8(t)
			d.Fuse(earlier)
			d.Fuse(n)
			for j := range 300 {
				writes(t, d, j%8, "w", api.OK)
			}
			is(t, d, false, 300, 300, 0)
		}
	}
}

func TestLaterFuse(t *testing.T) {
	for _, k := range []struct{ first, between, second int }{
		{0, 0, 2}, {2, 0, 0}, {2, 1, 0}, {1, 1, 3}, {5, 2, 5}, {9, 3, 1}, {-1, 2, 1}, {3, 3, 3},
	} {
		d := disk8(t)
		d.Fuse(k.first)
		for range k.between {
			writes(t, d, 1, "b", api.OK)
		}
		d.Fuse(k.second)
		for range k.second {
			writes(t, d, 1, "b", api.OK)
		}
		is(t, d, false, k.between+k.second, k.between+k.second, 0)
		writes(t, d, 1, "b", api.ErrDown)
		is(t, d, true, k.between+k.second, k.between+k.second, 0)
	}
}

func TestFuseWhileThePowerIsGone(t *testing.T) {
	for _, n := range []int{-1, 0, 1, 4, math.MinInt, math.MaxInt} {
		d := disk8(t)
		d.Fuse(0)
		writes(t, d, 0, "a", api.ErrDown)
		d.Fuse(n)
		is(t, d, true, 0, 0, 0)
		writes(t, d, 0, "a", api.ErrDown)
		syncs(t, d, api.ErrDown)
		d.Crash(nil)
		for range 20 {
			writes(t, d, 0, "b", api.OK)
		}
		is(t, d, false, 20, 20, 0)
	}
}

func TestReadingWhileThePowerIsGone(t *testing.T) {
	d := disk8(t)
	writes(t, d, 0, "kept", api.OK)
	syncs(t, d, api.OK)
	d.Fuse(2)
	writes(t, d, 1, "waits", api.OK)
	writes(t, d, 0, "over", api.OK)
	writes(t, d, 2, "lost", api.ErrDown)
	for range 2 {
		holds(t, d, 0, "over")
		holds(t, d, 1, "waits")
		holds(t, d, 2, "")
	}
	if b, e := d.Read(8); b != nil || e != api.ErrArg {
		t.Errorf("Read(8): %v, %d", b, e)
	}
	if d.Size() != 8 {
		t.Errorf("Size %d", d.Size())
	}
}

// P2.4

func TestCrashKeeps(t *testing.T) {
	tests := []struct {
		name string
		keep []int
		want [3]string
	}{
		{"nothing", nil, [3]string{"0", "1", ""}},
		{"an empty list", []int{}, [3]string{"0", "1", ""}},
		{"all", []int{1, 1, 1, 1}, [3]string{"0", "z", "y"}},
		{"none", []int{0, 0, 0, 0}, [3]string{"0", "1", ""}},
		{"the first", []int{1}, [3]string{"0", "x", ""}},
		{"the second", []int{0, 1}, [3]string{"0", "1", "y"}},
		{"the third", []int{0, 0, 1}, [3]string{"0", "z", ""}},
		{"the fourth", []int{0, 0, 0, 1}, [3]string{"0", "1", "y"}},
		{"first and third", []int{1, 0, 1}, [3]string{"0", "z", ""}},
		{"too many", []int{1, 0, 0, 0, 1, 1, 1, 1}, [3]string{"0", "x", ""}},
		{"even ones", []int{2, -2, math.MinInt, 1 << 40}, [3]string{"0", "1", ""}},
		{"odd ones", []int{3, -1, -3, math.MaxInt}, [3]string{"0", "z", "y"}},
		{"one below 0", []int{-1}, [3]string{"0", "x", ""}},
	}
	for _, k := range tests {
		d := disk8(t)
		writes(t, d, 0, "0", api.OK)
		writes(t, d, 1, "1", api.OK)
		syncs(t, d, api.OK)
		for _, w := range []struct {
			at int
			s  string
		}{{1, "x"}, {2, "y"}, {1, "z"}, {2, "y"}} {
			writes(t, d, w.at, w.s, api.OK)
		}
		keep := append([]int(nil), k.keep...)
		d.Crash(k.keep)
		for i, want := range k.want {
			if b, _ := d.Read(i); string(b) != full(want) {
				t.Errorf("%s: sector %d is %q, want %q", k.name, i, b, want)
			}
		}
		is(t, d, false, 0, 6, 1)
		for j := range keep {
			if k.keep[j] != keep[j] {
				t.Errorf("%s: what was handed in is now %v", k.name, k.keep)
			}
		}
	}
}

func TestCrashKeepsInTheOrderOfTheWrites(t *testing.T) {
	for mask := range 16 {
		d := disk8(t)
		want := "old"
		writes(t, d, 5, want, api.OK)
		syncs(t, d, api.OK)
		keep := []int{}
		for j, s := range []string{"a", "b", "c", "d"} {
			writes(t, d, 5, s, api.OK)
			keep = append(keep, mask>>j&1)
			if mask>>j&1 == 1 {
				want = s
			}
		}
		d.Crash(keep)
		holds(t, d, 5, want)
		d.Crash(nil)
		holds(t, d, 5, want)
	}
}

func TestCrashReplacesWholeSectors(t *testing.T) {
	d := disk8(t)
	writes(t, d, 5, strings.Repeat("o", 64), api.OK)
	syncs(t, d, api.OK)
	writes(t, d, 5, "n", api.OK)
	writes(t, d, 5, "", api.OK)
	d.Crash([]int{1, 0})
	holds(t, d, 5, "n")
}

func TestCrashBehindACrash(t *testing.T) {
	d := disk8(t)
	writes(t, d, 1, "a", api.OK)
	writes(t, d, 2, "b", api.OK)
	d.Crash([]int{0, 1})
	d.Crash([]int{1, 1})
	d.Crash(nil)
	holds(t, d, 1, "")
	holds(t, d, 2, "b")
	is(t, d, false, 0, 2, 0)
	// The numbers of what waits begin anew.
	writes(t, d, 1, "c", api.OK)
	writes(t, d, 2, "d", api.OK)
	is(t, d, false, 2, 4, 0)
	d.Crash([]int{1, 0})
	holds(t, d, 1, "c")
	holds(t, d, 2, "b")
}

func TestNumbersBeginAnewBehindASync(t *testing.T) {
	d := disk8(t)
	writes(t, d, 1, "a", api.OK)
	writes(t, d, 2, "b", api.OK)
	syncs(t, d, api.OK)
	writes(t, d, 1, "c", api.OK)
	writes(t, d, 2, "d", api.OK)
	d.Crash([]int{1})
	holds(t, d, 1, "c")
	holds(t, d, 2, "b")
}

func TestCrashBringsThePowerBack(t *testing.T) {
	d := disk8(t)
	d.Fuse(2)
	writes(t, d, 0, "a", api.OK)
	writes(t, d, 1, "b", api.OK)
	writes(t, d, 2, "c", api.ErrDown)
	writes(t, d, 3, "d", api.ErrDown)
	// What was refused doesn't wait: the numbers 2 and 3 are of nothing.
	d.Crash([]int{0, 1, 1, 1})
	is(t, d, false, 0, 2, 0)
	for i, want := range []string{"", "b", "", ""} {
		holds(t, d, i, want)
	}
	for range 10 {
		writes(t, d, 2, "c", api.OK)
	}
	syncs(t, d, api.OK)
	is(t, d, false, 0, 12, 1)
}

func TestCrashTakesTheFuseAway(t *testing.T) {
	for _, n := range []int{0, 1, 3} {
		d := disk8(t)
		d.Fuse(n)
		d.Crash(nil)
		for range 10 {
			writes(t, d, 2, "c", api.OK)
		}
		is(t, d, false, 10, 10, 0)
		d.Fuse(0)
		writes(t, d, 2, "c", api.ErrDown)
		is(t, d, true, 10, 10, 0)
	}
}

// P2.5

func TestCounts(t *testing.T) {
	d := disk8(t)
	steps := []struct {
		name                   string
		do                     func()
		down                   bool
		waiting, writes, syncs int
	}{
		{"New", func() {}, false, 0, 0, 0},
		{"a Sync of nothing", func() { d.Sync() }, false, 0, 0, 1},
		{"a Write", func() { d.Write(0, nil) }, false, 1, 1, 1},
		{"the same again", func() { d.Write(0, nil) }, false, 2, 2, 1},
		{"a wrong Write", func() { d.Write(8, nil) }, false, 2, 2, 1},
		{"a Read", func() { d.Read(0) }, false, 2, 2, 1},
		{"a Sync", func() { d.Sync() }, false, 0, 2, 2},
		{"a Fuse", func() { d.Fuse(1) }, false, 0, 2, 2},
		{"its Write", func() { d.Write(7, []byte("x")) }, false, 1, 3, 2},
		{"the Write behind it", func() { d.Write(7, []byte("y")) }, true, 1, 3, 2},
		{"a Sync without power", func() { d.Sync() }, true, 1, 3, 2},
		{"a Fuse without power", func() { d.Fuse(9) }, true, 1, 3, 2},
		{"a Crash", func() { d.Crash([]int{1}) }, false, 0, 3, 2},
		{"a Write behind it", func() { d.Write(1, nil) }, false, 1, 4, 2},
		{"a Crash that loses it", func() { d.Crash(nil) }, false, 0, 4, 2},
		{"a Sync behind it", func() { d.Sync() }, false, 0, 4, 3},
	}
	for _, k := range steps {
		k.do()
		if d.Down() != k.down || d.Waiting() != k.waiting || d.Writes() != k.writes || d.Syncs() != k.syncs {
			t.Errorf("behind %s: Down %v, Waiting %d, Writes %d, Syncs %d", k.name, d.Down(), d.Waiting(), d.Writes(), d.Syncs())
		}
	}
	if d.Size() != 8 {
		t.Errorf("Size %d", d.Size())
	}
}

func TestNilDisk(t *testing.T) {
	var d *Disk
	for range 2 {
		is(t, d, false, 0, 0, 0)
		if d.Size() != 0 {
			t.Errorf("Size %d", d.Size())
		}
		for _, i := range []int{-1, 0, 8} {
			if b, e := d.Read(i); b != nil || e != api.ErrState {
				t.Errorf("Read(%d): %v, %d", i, b, e)
			}
			writes(t, d, i, "a", api.ErrState)
			writes(t, d, i, strings.Repeat("a", 65), api.ErrState)
		}
		syncs(t, d, api.ErrState)
		d.Fuse(0)
		d.Crash(nil)
		d.Crash([]int{1})
	}
}

// All promises together

// plain is a disk told again as plainly as can be: each sector is worked out of all that waits.
type plain struct {
	kept   map[int]string
	at     []int
	waits  []string
	fuse   int
	down   bool
	writes int
	syncs  int
}

func (p *plain) read(i int) string {
	s := p.kept[i]
	for j, at := range p.at {
		if at == i {
			s = p.waits[j]
		}
	}
	return s
}

func (p *plain) write(size, i int, s string) api.Errno {
	if i < 0 || i >= size || len(s) > 64 {
		return api.ErrArg
	}
	if p.down || p.fuse == 0 {
		p.down = true
		return api.ErrDown
	}
	p.fuse--
	p.at, p.waits = append(p.at, i), append(p.waits, s)
	p.writes++
	return api.OK
}

func (p *plain) settle(kept func(j int) bool) {
	for j, at := range p.at {
		if kept(j) {
			p.kept[at] = p.waits[j]
		}
	}
	p.at, p.waits = nil, nil
}

func (p *plain) sync() api.Errno {
	if p.down {
		return api.ErrDown
	}
	p.settle(func(int) bool { return true })
	p.syncs++
	return api.OK
}

func (p *plain) crash(keep []int) {
	p.settle(func(j int) bool { return j < len(keep) && keep[j]&1 == 1 })
	p.down, p.fuse = false, -1
}

// step does one call, drawn from r, to both disks.
func step(t *testing.T, r *rand.Rand, d *Disk, p *plain) {
	t.Helper()
	switch n := r.Intn(20); {
	case n < 13:
		i, s := r.Intn(10)-1, strings.Repeat(string(rune('a'+r.Intn(26))), r.Intn(67))
		writes(t, d, i, s, p.write(8, i, s))
	case n < 16:
		syncs(t, d, p.sync())
	case n < 18:
		f := r.Intn(20) - 4
		d.Fuse(f)
		if !p.down {
			p.fuse = f
		}
	default:
		keep := []int{}
		for range r.Intn(15) {
			keep = append(keep, r.Intn(9)-4)
		}
		d.Crash(keep)
		p.crash(keep)
	}
}

func TestAsAPlainDisk(t *testing.T) {
	for seed := range int64(200) {
		r := rand.New(rand.NewSource(seed))
		d, p := disk8(t), &plain{kept: map[int]string{}, fuse: -1}
		for range 150 {
			step(t, r, d, p)
			is(t, d, p.down, len(p.at), p.writes, p.syncs)
			for i := range 8 {
				holds(t, d, i, p.read(i))
			}
			if t.Failed() {
				t.Fatalf("seed %d", seed)
			}
		}
	}
}
