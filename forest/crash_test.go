package forest

import (
	"maps"
	"slices"
	"strconv"
	"strings"
	"testing"

	"granary/api"
	"granary/disk"
	"granary/msg"
)

// call is one of a script.
type call struct {
	name string
	txn  uint64
	tree int
	ops  []Op
}

// script is what is done in crashes: two transactions, trees that come and go, and steps of all kinds between.
func script() []call {
	at := func(ops ...Op) call { return call{name: "do", ops: ops} }
	by := func(txn uint64, ops ...Op) call { return call{name: "do", txn: txn, ops: ops} }
	steps := func(n int) []call { return slices.Repeat([]call{{name: "checkpoint"}}, n) }
	long := strings.Repeat("long", 20)
	return slices.Concat(
		[]call{
			at(mk(1), put(1, "a", "1"), put(1, "b", "2"), put(1, "c", "3")),
			by(7, put(1, "d", "7"), del(1, "a")),
			at(mk(2), put(2, "x", long)),
		},
		steps(3),
		[]call{
			by(8, add(1, "b", 0, 8), put(2, "y", long)),
			{name: "flush", tree: 1},
			at(grow(1, '3', "g"), put(2, "z", "z")),
		},
		steps(4),
		[]call{
			{name: "commit", txn: 7},
			{name: "evict"},
			by(7, put(1, "c", "77")),
			at(put(1, "e", "5"), del(2, "x")),
		},
		steps(12),
		[]call{
			{name: "abort", txn: 8},
			by(9, put(2, "y", "9"), put(1, "b", "9")),
			{name: "evict"},
			{name: "flush", tree: 2},
			{name: "commit", txn: 9},
		},
		steps(5),
		[]call{
			at(drop(2), mk(3), put(3, "q", "q")),
			{name: "commit", txn: 7},
		},
		steps(12),
		[]call{at(put(3, "r", "r"), put(1, "f", long))},
	)
}

// run makes a call of a forest, and in the plain one.
func (c call) run(f *Forest, p *plain) api.Errno {
	switch c.name {
	case "do":
		p.do(c.txn, c.ops)
		return f.Do(c.txn, c.ops)
	case "commit":
		p.end(c.txn, api.MsgCommit)
		return f.Commit(c.txn)
	case "abort":
		p.end(c.txn, api.MsgAbort)
		return f.Abort(c.txn)
	case "flush":
		_, errno := f.Flush(c.tree)
		return errno
	case "evict":
		return f.Evict()
	}
	_, errno := f.Checkpoint()
	return errno
}

// played answers a disk on which the power went behind so many writes, and what may be mounted then; whole: the power never went.
func played(t *testing.T, c api.Setup, fuse int) (d *disk.Disk, may []state, whole bool) {
	t.Helper()
	d = formatted(t, c)
	f := mounted(t, d, c)
	p := newPlain(1 << 20)
	d.Fuse(fuse)
	for _, call := range script() {
		before := p.kept().trees
		errno := call.run(f, p)
		if errno == api.ErrDown {
			return d, []state{before, p.kept().trees}, false
		}
		if errno != api.OK {
			t.Fatalf("%s %d: %v", call.name, call.txn, errno)
		}
	}
	return d, []state{p.kept().trees}, true
}

// keeps answers what a crash may keep of so many writes.
func keeps(waiting, seed int) [][]int {
	r := chance(seed)
	l := [][]int{nil, slices.Repeat([]int{1}, waiting), slices.Repeat([]int{0, 1}, waiting), slices.Repeat([]int{1, 0}, waiting)}
	for range 3 {
		some := make([]int, waiting)
		for i := range some {
			some[i] = r.Intn(2)
		}
		l = append(l, some)
	}
	if waiting > 0 {
		// All but the last one, and the last one alone.
		l = append(l, slices.Repeat([]int{1}, waiting-1), append(make([]int, waiting-1), 1))
	}
	return l
}

// P14.7

func TestCrashAtEachWrite(t *testing.T) {
	setups := []api.Setup{
		{Sectors: 256, Log: 24, Shape: small.Shape, Cache: 1, Rows: 2},
		{Sectors: 512, Log: 64, Shape: api.Shape{Leaf: 3, Fan: 2, Buf: 4}, Cache: 256, Rows: 2},
	}
	for _, c := range setups {
		for fuse := 0; ; fuse++ {
			d, may, whole := played(t, c, fuse)
			for n, keep := range keeps(d.Waiting(), fuse) {
				if n > 0 {
					d, may, _ = played(t, c, fuse)
				}
				d.Crash(keep)
				f := mounted(t, d, c)
				if s := stateOf(t, f); !slices.ContainsFunc(may, func(is state) bool { return same(s, is) }) {
					t.Fatalf("by the fuse %d and %v there is %s\nnot %s", fuse, keep, s.text(), may[0].text())
				}
				if len(f.Txns()) != 0 {
					t.Fatalf("Txns %v", f.Txns())
				}
				audit(t, f)
			}
			if whole {
				if fuse < 50 {
					t.Fatalf("there were just %d writes", fuse)
				}
				break
			}
		}
	}
}

func TestCrashesOfMounts(t *testing.T) {
	c := api.Setup{Sectors: 256, Log: 32, Shape: small.Shape, Cache: 1, Rows: 2}
	most := 0
	for fuse := 5; ; fuse += 7 {
		d, _, whole := played(t, c, fuse)
		keep := keeps(d.Waiting(), fuse)[fuse%7]
		d.Crash(keep)
		want := stateOf(t, mounted(t, copyOf(t, d), c))
		for n, done := 0, false; !done; n++ {
			for variant := range 7 {
				e := copyOf(t, d)
				e.Fuse(n)
				f, errno := Mount(e, c)
				if done = errno == api.OK; done {
					most = max(most, n)
					break
				}
				if errno != api.ErrDown || f != nil {
					t.Fatalf("Mount: %v %v", f, errno)
				}
				e.Crash(keeps(e.Waiting(), n)[variant])
				f = mounted(t, e, c)
				if s := stateOf(t, f); !same(s, want) {
					t.Fatalf("by the fuse %d and another mount's %d there is %s\nnot %s", fuse, n, s.text(), want.text())
				}
				// It goes on as a forest does.
				do(t, f, 7, api.OK, put(1, "new", "7"))
				if errno := f.Commit(7); errno != api.OK {
					t.Fatalf("Commit: %v", errno)
				}
				want := stateOf(t, f)
				e.Crash(nil)
				if s := stateOf(t, mounted(t, e, c)); !same(s, want) {
					t.Fatalf("there is %s\nnot %s", s.text(), want.text())
				}
			}
		}
		if whole {
			break
		}
	}
	if most < 5 {
		t.Fatalf("a mount never has more than %d writes", most)
	}
}

func TestTornRecordsBehindACheckpoint(t *testing.T) {
	// What a crash left of a torn log doesn't come back, though the log begins just there by now.
	for left := range 6 {
		c := api.Setup{Sectors: 512, Log: 16, Shape: small.Shape, Cache: 256, Rows: 2}
		d, f := planted(t, c, 1)
		for i := range 6 {
			do(t, f, 7, api.OK, put(1, strconv.Itoa(i), "torn"))
		}
		// All but the first one are kept.
		d.Crash([]int{0, 1, 1, 1, 1, 1})
		f = mounted(t, d, c)
		for range left {
			do(t, f, 0, api.OK, put(1, "new", strconv.Itoa(left)))
		}
		checkpoint(t, f)
		d.Crash(nil)
		f = mounted(t, d, c)
		if f.Room() != c.Log {
			t.Fatalf("behind %d records there are others: Room %d", left, f.Room())
		}
		if left > 0 {
			holds(t, f, 1, held("new", strconv.Itoa(left)))
		}
	}
}

func TestCrashesInARow(t *testing.T) {
	// What is torn and not there stays away over further mounts, though later records are laid over it.
	c := api.Setup{Sectors: 512, Log: 16, Shape: small.Shape, Cache: 2, Rows: 2}
	for seed := range 60 {
		r := chance(seed)
		d, f := planted(t, c, 1)
		val := 0
		for range 30 {
			for range r.Intn(4) {
				txn := uint64(1 + r.Intn(3))
				f.Do(txn, []Op{put(1, strconv.Itoa(r.Intn(9)), strings.Repeat("no", r.Intn(60)))})
			}
			if r.Intn(2) == 0 {
				next := strconv.Itoa(val + 1)
				for f.Do(0, []Op{put(1, "val", next)}) != api.OK {
					for _, txn := range f.Txns() {
						f.Abort(txn)
					}
					untilDone(f)
				}
				val++
			}
			d.Crash(keeps(d.Waiting(), r.Intn(1000))[r.Intn(7)])
			f = mounted(t, d, c)
			if val == 0 {
				holds(t, f, 1)
			} else {
				holds(t, f, 1, held("val", strconv.Itoa(val)))
			}
		}
	}
}

func TestLives(t *testing.T) {
	setups := []api.Setup{
		small,
		{Sectors: 64, Log: 8, Shape: api.Shape{Leaf: 2, Fan: 2, Buf: 1}, Cache: 1, Rows: 1},
		{Sectors: 64, Log: 32, Shape: api.Shape{Leaf: 2, Fan: 2, Buf: 4}, Cache: 3, Rows: 1},
		{Sectors: 120, Log: 16, Shape: api.Shape{Leaf: 3, Fan: 3, Buf: 4}, Cache: 200, Rows: 1},
		{Sectors: 1024, Log: 64, Shape: api.Shape{Leaf: 2, Fan: 2, Buf: 2}, Cache: 2, Rows: 2},
		wide,
	}
	seen := map[string]int{}
	for at, c := range setups {
		for seed := range 30 {
			l := newLife(t, c, 100*at+seed, []int{3, 12, 60}[seed%3])
			for range 400 {
				l.step()
			}
			l.d.Fuse(-1)
			agrees(t, l.f, l.p)
			audit(t, l.f)
			for what, n := range l.seen {
				seen[what] += n
			}
		}
	}
	for _, what := range []string{
		"do 0", "do 1", "do 3", "do 4", "do 5", "do 6", "do 9", "end 0", "end 4", "end 5", "flush 0", "flush 4", "evict 0", "evict 3", "evict 4",
		"evict 5", "checkpoint 0", "checkpoint 3", "checkpoint 4", "checkpoint done 0", "crash by hand 0", "get 4", "scan 4", "cursor 0", "mount 4",
	} {
		if seen[what] == 0 {
			t.Errorf("%s was never seen; %v", what, slices.Sorted(maps.Keys(seen)))
		}
	}
}

func TestMountedAnew(t *testing.T) {
	// One that is mounted anew now and then answers as one that never is.
	for seed := range 40 {
		r := chance(seed)
		c := api.Setup{Sectors: 1024, Log: 48, Shape: small.Shape, Cache: 1 + seed%5, Rows: 1}
		_, never := planted(t, c, 1, 2)
		d, anew := planted(t, c, 1, 2)
		for range 200 {
			txn := uint64(r.Intn(3))
			tree, val := 1+r.Intn(2), strings.Repeat("v", r.Intn(30))
			ops := []Op{put(tree, strconv.Itoa(r.Intn(20)), val), del(tree, strconv.Itoa(r.Intn(20)))}
			var errnos [2]api.Errno
			n := r.Intn(12)
			for at, f := range []*Forest{never, anew} {
				switch {
				case n < 6:
					errnos[at] = f.Do(txn, ops)
				case n < 9:
					errnos[at] = f.Commit(txn)
				case n == 9:
					errnos[at] = f.Abort(txn)
				case n == 10 && f.Room() < 20:
					errnos[at] = untilDone(f)
				}
			}
			if errnos[0] != errnos[1] {
				t.Fatalf("%v", errnos)
			}
			if n == 11 && len(anew.Txns()) == 0 {
				d.Sync()
				d.Crash(nil)
				anew = mounted(t, d, c)
			}
			if !same(stateOf(t, never), stateOf(t, anew)) || never.Room() != anew.Room() || !slices.Equal(never.Txns(), anew.Txns()) {
				t.Fatalf("%s, %d\nand not %s, %d", stateOf(t, anew).text(), anew.Room(), stateOf(t, never).text(), never.Room())
			}
		}
	}
}

func TestNumbersOfBlocks(t *testing.T) {
	// No number is given twice, whatever a crash takes.
	seen := map[uint64]bool{}
	d := newDisk(t, small)
	for at := range 12 {
		if at%4 == 0 {
			if errno := Format(d, small); errno != api.OK {
				t.Fatalf("Format: %v", errno)
			}
		}
		f := mounted(t, d, small)
		f.Do(0, []Op{mk(1)})
		old := map[uint64]bool{}
		for _, p := range f.needed {
			old[p.block] = true
		}
		last := map[*place]bool{}
		for i := range 10 {
			do(t, f, 0, api.OK, put(1, strconv.Itoa(i), ""))
			f.Evict()
			if i == 6 && at%2 == 0 {
				checkpoint(t, f)
			}
			for _, p := range append(slices.Collect(maps.Values(f.store.nodes)), f.needed...) {
				if p == nil || last[p] || old[p.block] {
					continue
				}
				if seen[p.block] || p.block == 0 {
					t.Fatalf("the block %d is given twice", p.block)
				}
				seen[p.block], last[p] = true, true
			}
		}
		d.Crash(nil)
	}
	if len(seen) < 50 {
		t.Fatalf("just %d blocks", len(seen))
	}
}

func TestMountsWithoutCrashes(t *testing.T) {
	// A mount finds what waits as well as what is kept, and ends what is open.
	d, f := prepared(t, small)
	f = mounted(t, d, small)
	holds(t, f, 1, held("a", "1"))
	for range 5 {
		do(t, f, 7, api.OK, put(1, "b", "3"))
		f = mounted(t, d, small)
		if len(f.Txns()) != 0 {
			t.Fatalf("Txns %v", f.Txns())
		}
		holds(t, f, 1, held("a", "1"))
		holds(t, f, 2, held("a", "2"))
	}
}

func TestSums(t *testing.T) {
	// What transactions move between keys is never lost, nor doubled.
	c := api.Setup{Sectors: 512, Log: 40, Shape: small.Shape, Cache: 2, Rows: 1}
	for seed := range 30 {
		r := chance(seed)
		d, f := planted(t, c, 1)
		for i := range 6 {
			do(t, f, 0, api.OK, put(1, strconv.Itoa(i), "\x00\x00\x00\x00\x00\x00\x03\xe8"))
		}
		for range 60 {
			d.Fuse(r.Intn(60))
			txn := uint64(1 + r.Intn(3))
			from, to, n := r.Intn(6), r.Intn(6), uint64(r.Intn(50))
			f.Do(txn, []Op{add(1, strconv.Itoa(from), 0, -n), add(1, strconv.Itoa(to), 0, n)})
			if r.Intn(2) == 0 {
				f.Commit(txn)
			}
			if r.Intn(4) == 0 {
				f.Abort(txn)
			}
			f.Checkpoint()
			if d.Down() || r.Intn(20) == 0 {
				d.Crash(keeps(d.Waiting(), r.Intn(1000))[r.Intn(7)])
				f = mounted(t, d, c)
			}
			d.Fuse(-1)
			sums := map[uint64]uint64{}
			l, errno := f.Scan(1, all, -1)
			if errno != api.OK || len(l) != 6 {
				t.Fatalf("Scan: %v %v", l, errno)
			}
			for txn := range uint64(4) {
				for _, e := range l {
					v, _ := msg.View(e, txn)
					for at, b := range []byte(v) {
						sums[txn] += uint64(b) << (8 * (7 - at))
					}
				}
				if sums[txn] != 6000 {
					t.Fatalf("the sum is %d", sums[txn])
				}
			}
		}
	}
}
