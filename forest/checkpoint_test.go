package forest

import (
	"slices"
	"strconv"
	"strings"
	"testing"

	"granary/api"
	"granary/block"
	"granary/disk"
)

// filled answers a forest with a tree 1 of so many entries, some of which wait.
func filled(t *testing.T, c api.Setup, entries int) (*disk.Disk, *Forest) {
	t.Helper()
	d, f := planted(t, c, 1)
	for i := range entries {
		for f.Room() < 2 {
			checkpoint(t, f)
		}
		do(t, f, 0, api.OK, put(1, "key"+strconv.Itoa(i), "value"+strconv.Itoa(i)))
	}
	return d, f
}

// copyOf answers a disk with the same sectors.
func copyOf(t *testing.T, d *disk.Disk) *disk.Disk {
	t.Helper()
	e, errno := disk.New(d.Size())
	if errno != api.OK {
		t.Fatalf("no disk: %v", errno)
	}
	for sector := range d.Size() {
		b, _ := d.Read(sector)
		e.Write(sector, b)
	}
	e.Sync()
	return e
}

// withoutLog answers what a mount finds of the checkpoint alone.
func withoutLog(t *testing.T, d *disk.Disk, c api.Setup) state {
	t.Helper()
	e := copyOf(t, d)
	for i := range c.Log {
		e.Write(2+i, nil)
	}
	return stateOf(t, mounted(t, e, c))
}

// P14.5

func TestFlush(t *testing.T) {
	_, f := filled(t, small, 30)
	was, room := stateOf(t, f), f.Room()
	n := 0
	for {
		waited, errno := f.Flush(1)
		if errno != api.OK {
			t.Fatalf("Flush: %v", errno)
		}
		if !same(stateOf(t, f), was) || f.Room() != room {
			t.Fatalf("a Flush has changed something")
		}
		if !waited {
			break
		}
		n++
	}
	if n == 0 {
		t.Fatalf("nothing waited")
	}
	if waited, errno := f.Flush(1); waited || errno != api.OK {
		t.Fatalf("Flush: %v %v", waited, errno)
	}
	audit(t, f)
	// What waits goes on to be younger than what has come down.
	do(t, f, 0, api.OK, put(1, "key3", "x"))
	f.Flush(1)
	if e, _ := f.Get(1, "key3"); e != held("key3", "x") {
		t.Fatalf("Get: %v", e)
	}
}

func TestEvict(t *testing.T) {
	for _, cache := range []int{1, 2, 7, 256} {
		c := small
		c.Cache = cache
		d, f := filled(t, c, 20)
		was, room := stateOf(t, f), f.Room()
		nodes := min(cache, len(f.store.nodes))
		for range nodes {
			if errno := f.Evict(); errno != api.OK {
				t.Fatalf("Evict: %v", errno)
			}
		}
		if errno := f.Evict(); errno != api.ErrNone || f.store.pool.Len() != 0 {
			t.Fatalf("Evict of none: %v", errno)
		}
		if !same(stateOf(t, f), was) || f.Room() != room {
			t.Fatalf("an Evict has changed something")
		}
		audit(t, f)
		// What was only read isn't written again.
		writes := d.Writes()
		for f.Evict() == api.OK {
		}
		if d.Writes() != writes {
			t.Fatalf("clean nodes are written")
		}
	}
}

func TestEvictOfNothing(t *testing.T) {
	_, f := planted(t, small)
	if errno := f.Evict(); errno != api.ErrNone {
		t.Fatalf("Evict: %v", errno)
	}
	do(t, f, 0, api.OK, mk(1))
	if errno := f.Evict(); errno != api.OK {
		t.Fatalf("Evict: %v", errno)
	}
	do(t, f, 0, api.OK, drop(1))
	if errno := f.Evict(); errno != api.ErrNone {
		t.Fatalf("Evict: %v", errno)
	}
}

// takeAll takes all sectors that are free, but for the first ones of each stretch, and answers them.
func takeAll(f *Forest, but int) []int {
	var taken []int
	for _, h := range f.store.space.Holes() {
		for at := h.Start + but; at < h.Start+h.Len; at++ {
			if (at-h.Start)%(but+1) == but {
				f.store.space.Take(at, 1)
				taken = append(taken, at)
			}
		}
	}
	return taken
}

func TestEvictFull(t *testing.T) {
	for hole, want := range []api.Errno{api.ErrFull, api.ErrFull, api.ErrFull, api.OK} {
		c := small
		c.Cache = 1
		_, f := planted(t, c, 1)
		// A leaf of 3 sectors.
		do(t, f, 0, api.OK, put(1, "key", strings.Repeat("x", 90)))
		taken := takeAll(f, hole)
		was, room := stateOf(t, f), f.Room()
		for range 3 {
			left := f.store.space.Left()
			if errno := f.Evict(); errno != want {
				t.Fatalf("Evict with holes of %d sectors: %v", hole, errno)
			}
			if want == api.OK {
				break
			}
			if f.store.space.Left() != left || f.store.pool.Len() != 1 || !same(stateOf(t, f), was) || f.Room() != room {
				t.Fatalf("something has changed")
			}
			audited := f.store.nodes[f.roots[1]]
			if audited != nil {
				t.Fatalf("it lies at %v", audited)
			}
		}
		// Nodes that can't be written stay, and change, and become more, all the same.
		do(t, f, 0, api.OK, put(1, "a", strings.Repeat("x", 90)), put(1, "b", ""), put(1, "c", ""))
		flushAll(f, 1)
		was = stateOf(t, f)
		if len(was[1]) != 4 || hole < 3 && (f.store.pool.Len() < 3 || f.Evict() != want) {
			t.Fatalf("there is %s", was.text())
		}
		for _, at := range taken {
			f.store.space.Free(at, 1)
		}
		for f.Evict() == api.OK {
		}
		if f.store.pool.Len() != 0 || !same(stateOf(t, f), was) {
			t.Fatalf("there is %s", stateOf(t, f).text())
		}
		audit(t, f)
	}
}

func TestCheckpointSteps(t *testing.T) {
	for _, c := range []api.Setup{small, wide, {Sectors: 1024, Log: 64, Shape: small.Shape, Cache: 256, Rows: 1}} {
		for entries := range 40 {
			d, f := filled(t, c, entries)
			for f.store.draft != nil {
				f.Checkpoint()
			}
			for _, evicted := range []bool{false, true} {
				was, nodes := stateOf(t, f), len(f.store.nodes)
				dirty := len(f.store.pool.Dirty())
				steps := 0
				for done := false; !done; steps++ {
					var errno api.Errno
					writes, syncs := d.Writes(), d.Syncs()
					done, errno = f.Checkpoint()
					if errno != api.OK || steps > 5000 {
						t.Fatalf("Checkpoint: %v", errno)
					}
					n := d.Writes() - writes
					if steps == 0 && (n != 0 || done) || done && (n != 1 || d.Syncs() == syncs || d.Waiting() != 0) {
						t.Fatalf("%d writes in the step %d (%v)", n, steps, done)
					}
					if steps > 0 && n == 0 || n > 30 {
						t.Fatalf("%d writes in the step %d", n, steps)
					}
				}
				if steps > nodes+10 || steps != dirty+3 {
					t.Fatalf("%d steps with %d nodes, %d dirty", steps, nodes, dirty)
				}
				if !same(stateOf(t, f), was) || f.Room() != c.Log {
					t.Fatalf("a checkpoint has changed something; Room %d", f.Room())
				}
				if !same(withoutLog(t, d, c), was) {
					t.Fatalf("the checkpoint holds something else")
				}
				audit(t, f)
				for f.Evict() == api.OK && !evicted {
				}
				do(t, f, 0, api.OK, put(1, "more", "y"))
			}
		}
	}
}

func TestCheckpointOfNoTrees(t *testing.T) {
	d, f := planted(t, small, 1, 2)
	checkpoint(t, f)
	do(t, f, 0, api.OK, drop(1), drop(2))
	for step := range 11 {
		done, errno := f.Checkpoint()
		if errno != api.OK || step == 10 {
			t.Fatalf("Checkpoint: %v", errno)
		}
		if done {
			break
		}
	}
	isEmpty(t, f)
	d.Crash(nil)
	isEmpty(t, mounted(t, d, small))
}

// changes are what may be done while a checkpoint is on its way.
func changes() map[string]func(t *testing.T, f *Forest, p *plain) {
	both := func(txn uint64, ops ...Op) func(t *testing.T, f *Forest, p *plain) {
		return func(t *testing.T, f *Forest, p *plain) {
			t.Helper()
			do(t, f, txn, p.do(txn, ops), ops...)
		}
	}
	return map[string]func(t *testing.T, f *Forest, p *plain){
		"nothing":       func(t *testing.T, f *Forest, p *plain) {},
		"a put":         both(0, put(1, "key1", "other")),
		"puts":          both(0, put(1, "key1", "other"), put(1, "key5", "other"), put(1, "zz", "other"), del(1, "key2"), put(2, "a", "3")),
		"a long put":    both(0, put(1, "key4", strings.Repeat("long", 100))),
		"a grow":        both(0, grow(1, 'v', "grown")),
		"a drop":        both(0, drop(1)),
		"a drop anew":   both(0, drop(2), mk(2), put(2, "b", "4")),
		"a make":        both(0, mk(3), put(3, "c", "5")),
		"a transaction": both(9, put(1, "key1", "9"), del(1, "key6")),
		"more of one":   both(7, put(1, "key9", "7")),
		"flushes":       func(t *testing.T, f *Forest, p *plain) { flushAll(f, 1) },
		"evictions": func(t *testing.T, f *Forest, p *plain) {
			for f.Evict() == api.OK {
			}
		},
		"a commit": func(t *testing.T, f *Forest, p *plain) {
			if f.Commit(7) != api.OK || p.end(7, api.MsgCommit) != api.OK {
				t.Fatalf("no commit")
			}
		},
		"an abort": func(t *testing.T, f *Forest, p *plain) {
			if f.Abort(7) != api.OK || p.end(7, api.MsgAbort) != api.OK {
				t.Fatalf("no abort")
			}
		},
	}
}

func TestCheckpointWhileWorkGoesOn(t *testing.T) {
	for _, cache := range []int{1, 4, 100} {
		c := api.Setup{Sectors: 1024, Log: 128, Shape: api.Shape{Leaf: 2, Fan: 3, Buf: 3}, Cache: cache, Rows: 1}
		for name, change := range changes() {
			for at := range 24 {
				d, f := planted(t, c, 1, 2)
				p := newPlain(c.Log)
				begin := []Op{put(2, "a", "1"), put(2, "b", "2")}
				for i := range 12 {
					begin = append(begin, put(1, "key"+strconv.Itoa(i), "value"))
				}
				p.do(0, []Op{mk(1)})
				p.do(0, []Op{mk(2)})
				do(t, f, 0, p.do(0, begin), begin...)
				mine := []Op{put(1, "key3", "7"), del(2, "a"), put(1, "y", "7")}
				do(t, f, 7, p.do(7, mine), mine...)
				then := p.copied()
				for step, done := 0, false; !done; step++ {
					var errno api.Errno
					if done, errno = f.Checkpoint(); errno != api.OK {
						t.Fatalf("Checkpoint with %s: %v", name, errno)
					}
					if step == 0 {
						p.since = 0
					}
					if step == at && !done {
						change(t, f, p)
					}
				}
				p.used, p.since = p.since, -1
				audit(t, f)
				agrees(t, f, p)
				if s := withoutLog(t, d, c); !same(s, then.kept().trees) {
					t.Fatalf("with %s behind the step %d the checkpoint holds %s\nnot %s", name, at, s.text(), then.kept().trees.text())
				}
				d.Crash(nil)
				if s := stateOf(t, mounted(t, d, c)); !same(s, p.kept().trees) {
					t.Fatalf("with %s behind the step %d there is %s\nnot %s", name, at, s.text(), p.kept().trees.text())
				}
			}
		}
	}
}

func TestCheckpointFull(t *testing.T) {
	d, f := planted(t, small, 1, 2)
	p := newPlain(small.Log)
	p.do(0, []Op{mk(1)})
	p.do(0, []Op{mk(2)})
	full, dones := 0, 0
	for i := 0; full < 3; i++ {
		ops := []Op{put(1+i%2, "key"+strconv.Itoa(i), strings.Repeat("v", 40))}
		do(t, f, 0, p.do(0, ops), ops...)
		for done := false; f.Room() < 8 && !done && full < 3; {
			var errno api.Errno
			begins := f.store.draft == nil
			done, errno = f.Checkpoint()
			switch {
			case begins && (done || errno != api.OK):
				t.Fatalf("the first step: %v %v", done, errno)
			case begins:
				p.since = 0
			case done:
				p.used, p.since = p.since, -1
				dones++
			case errno == api.ErrFull:
				full++
				p.since = -1
				if done || f.store.draft != nil {
					t.Fatalf("it isn't given up")
				}
			case errno != api.OK:
				t.Fatalf("Checkpoint: %v", errno)
			}
			agrees(t, f, p)
			audit(t, f)
		}
	}
	if dones == 0 {
		t.Fatalf("no checkpoint was ever done")
	}
	copied := copyOf(t, d)
	copied.Crash(nil)
	if s := stateOf(t, mounted(t, copied, small)); !same(s, p.trees) {
		t.Fatalf("there is %s, not %s", s.text(), p.trees.text())
	}
	// With half of it gone there is room again.
	do(t, f, 0, api.OK, drop(2))
	checkpoint(t, f)
	if f.Room() != small.Log {
		t.Fatalf("Room %d", f.Room())
	}
	delete(p.trees, 2)
	d.Crash(nil)
	f = mounted(t, d, small)
	if s := stateOf(t, f); !same(s, p.trees) {
		t.Fatalf("there is %s, not %s", s.text(), p.trees.text())
	}
	do(t, f, 0, api.OK, drop(1))
	checkpoint(t, f)
	isEmptyBut(t, f)
}

// isEmptyBut fails unless all sectors for blocks are free.
func isEmptyBut(t *testing.T, f *Forest) {
	t.Helper()
	if hole := f.Hole(); hole != f.setup.Sectors-f.setup.Log-2 {
		t.Fatalf("not all free: %d", hole)
	}
}

// sparse answers a forest of 60 entries that was checkpointed, where of the free sectors just every other one is left free, a stretch of some, and the ones that are taken.
func sparse(t *testing.T, stretch int) (*disk.Disk, *Forest, []int) {
	t.Helper()
	d, f := filled(t, api.Setup{Sectors: 1024, Log: 64, Shape: small.Shape, Cache: 256, Rows: 1}, 60)
	for f.Evict() == api.OK {
	}
	checkpoint(t, f)
	return d, f, takeAll(f, stretch)
}

func TestMapInSmallParts(t *testing.T) {
	d, f, _ := sparse(t, 2)
	was, nodes := stateOf(t, f), len(f.store.nodes)
	size := len(mapBytes(f.roots, f.store.nodes))
	for f.Evict() == api.OK {
	}
	if dirty := f.store.pool.Dirty(); len(dirty) != 0 || f.Hole() != 2 {
		t.Fatalf("%v dirty, Hole %d", dirty, f.Hole())
	}
	// Two sectors at a time: 90 bytes of the map.
	steps := 0
	for done := false; !done; steps++ {
		var errno api.Errno
		writes := d.Writes()
		done, errno = f.Checkpoint()
		if errno != api.OK || d.Writes()-writes > 2 {
			t.Fatalf("Checkpoint: %v, %d writes", errno, d.Writes()-writes)
		}
	}
	if want := 2 + (size+89)/90; steps != want || steps > nodes+10 {
		t.Fatalf("%d steps, not %d; %d nodes", steps, want, nodes)
	}
	if parts := len(f.needed) - nodes; parts != (size+89)/90 {
		t.Fatalf("%d parts", parts)
	}
	d.Crash(nil)
	f = mounted(t, d, f.setup)
	if !same(stateOf(t, f), was) || f.Room() != f.setup.Log {
		t.Fatalf("something else is there")
	}
	audit(t, f)
}

func TestMapWithoutStepsForSmallParts(t *testing.T) {
	for less := range 4 {
		d, f, taken := sparse(t, 2)
		was, size := stateOf(t, f), len(mapBytes(f.roots, f.store.nodes))
		for f.Evict() == api.OK {
		}
		// So many steps are left that the map's small parts, and the last step, just have room, or not.
		parts := (size + 89) / 90
		f.Checkpoint()
		f.store.draft.steps = parts + 1 - less
		steps := 0
		errno := api.OK
		for done := false; !done && errno == api.OK; steps++ {
			done, errno = f.Checkpoint()
		}
		if less == 0 && (errno != api.OK || steps != parts+1) || less > 0 && (errno != api.ErrFull || steps != parts-less) {
			t.Fatalf("with %d steps for %d parts: %v in %d", parts+1-less, parts, errno, steps)
		}
		audit(t, freed(f, taken))
		d.Crash(nil)
		if s := stateOf(t, mounted(t, d, f.setup)); !same(s, was) {
			t.Fatalf("something else is there")
		}
	}
}

// freed answers the forest with these sectors free again.
func freed(f *Forest, taken []int) *Forest {
	for _, at := range taken {
		f.store.space.Free(at, 1)
	}
	return f
}

func TestMapInSmallPartsAndAGreatOne(t *testing.T) {
	d, f, taken := sparse(t, 2)
	was := stateOf(t, f)
	for f.Evict() == api.OK {
	}
	f.Checkpoint()
	// This one, one for the rest, and the last one.
	f.store.draft.steps = 3
	if done, errno := f.Checkpoint(); done || errno != api.OK {
		t.Fatalf("Checkpoint: %v %v", done, errno)
	}
	freed(f, taken)
	if done, errno := f.Checkpoint(); done || errno != api.OK || len(f.store.draft.left) != 0 {
		t.Fatalf("Checkpoint: %v %v", done, errno)
	}
	if done, errno := f.Checkpoint(); !done || errno != api.OK {
		t.Fatalf("Checkpoint: %v %v", done, errno)
	}
	audit(t, f)
	d.Crash(nil)
	if s := stateOf(t, mounted(t, d, f.setup)); !same(s, was) {
		t.Fatalf("something else is there")
	}
}

func TestStepsOfNodesAndSmallParts(t *testing.T) {
	// Nodes and parts of a sector each: for the parts there are 8 steps.
	c := api.Setup{Sectors: 1024, Log: 64, Shape: small.Shape, Cache: 256, Rows: 1}
	fits := map[bool]int{}
	for entries := 1; entries < 40; entries++ {
		_, f := planted(t, c, 1)
		for i := range entries {
			do(t, f, 0, api.OK, put(1, string(rune('A'+i)), ""))
		}
		flushAll(f, 1)
		takeAll(f, 1)
		nodes, parts := len(f.store.nodes), (2+6+14*len(f.store.nodes)+39)/40
		steps, errno := 0, api.OK
		for done := false; !done && errno == api.OK; steps++ {
			done, errno = f.Checkpoint()
		}
		want := api.OK
		if parts > 8 {
			want = api.ErrFull
		}
		if errno != want || errno == api.OK && steps != 1+nodes+parts+1 || steps > nodes+10 {
			t.Fatalf("%d nodes, %d parts: %v in %d steps", nodes, parts, errno, steps)
		}
		fits[errno == api.OK]++
	}
	if fits[true] == 0 || fits[false] == 0 {
		t.Fatalf("the bound isn't met: %v", fits)
	}
}

func TestMapWithoutSectors(t *testing.T) {
	_, f, _ := sparse(t, 0)
	was := stateOf(t, f)
	for f.Evict() == api.OK {
	}
	if f.Hole() != 0 {
		t.Fatalf("Hole %d", f.Hole())
	}
	f.Checkpoint()
	if done, errno := f.Checkpoint(); done || errno != api.ErrFull {
		t.Fatalf("Checkpoint: %v %v", done, errno)
	}
	if !same(stateOf(t, f), was) {
		t.Fatalf("something has changed")
	}
}

func TestMapOfManyParts(t *testing.T) {
	// A forest whose map is longer than a block.
	c := api.Setup{Sectors: 4096, Log: 1024, Shape: api.Shape{Leaf: 2, Fan: 2, Buf: 1}, Cache: 256, Rows: 1}
	d, f := planted(t, c)
	trees := 1700
	for at := 0; at < trees; at += 100 {
		var ops []Op
		for i := range 100 {
			ops = append(ops, mk(1+at+i))
		}
		do(t, f, 0, api.OK, ops...)
		if at%500 == 400 {
			checkpoint(t, f)
		}
	}
	do(t, f, 0, api.OK, put(1700, "a", "1"))
	steps := 0
	for done := false; !done; steps++ {
		var errno api.Errno
		writes := d.Writes()
		if done, errno = f.Checkpoint(); errno != api.OK || d.Writes()-writes > block.Count(api.MaxBlock) {
			t.Fatalf("Checkpoint: %v", errno)
		}
	}
	if parts := len(f.needed) - trees; parts != 2 || steps > trees+10 {
		t.Fatalf("%d parts, %d steps", parts, steps)
	}
	audit(t, f)
	d.Crash(nil)
	f = mounted(t, d, c)
	holds(t, f, 1700, held("a", "1"))
	if l := f.Trees(); len(l) != trees || l[0] != 1 || l[trees-1] != trees {
		t.Fatalf("%d trees", len(l))
	}
	audit(t, f)
}

// P14.6

func TestRoom(t *testing.T) {
	_, f := planted(t, small, 1)
	rooms := []int{f.Room()}
	note := func() { rooms = append(rooms, f.Room()) }
	do(t, f, 0, api.OK, put(1, "", strings.Repeat("v", 50-11-18)))
	note()
	do(t, f, 0, api.OK, put(1, "", strings.Repeat("v", 50-11-18+1)))
	note()
	do(t, f, 7, api.OK, put(1, "a", strings.Repeat("v", 300)))
	note()
	f.Commit(7)
	note()
	do(t, f, 8, api.OK, put(1, "a", ""))
	note()
	f.Abort(8)
	note()
	f.Checkpoint()
	note()
	do(t, f, 0, api.OK, put(1, "b", ""))
	do(t, f, 0, api.ErrNone, put(2, "b", ""))
	note()
	untilDone(f)
	note()
	if want := []int{31, 30, 28, 21, 20, 19, 18, 18, 17, 31}; !slices.Equal(rooms, want) {
		t.Fatalf("Room went %v, not %v", rooms, want)
	}
	// Round and round the ring.
	for i := range 200 {
		do(t, f, 0, api.OK, put(1, "b", strconv.Itoa(i)))
		if f.Room() == 0 {
			do(t, f, 0, api.ErrFull, put(1, "b", ""))
			checkpoint(t, f)
		}
	}
}

func TestHole(t *testing.T) {
	_, f := planted(t, small)
	all := small.Sectors - small.Log - 2
	if f.Hole() != all {
		t.Fatalf("Hole %d", f.Hole())
	}
	do(t, f, 0, api.OK, mk(1), put(1, "a", strings.Repeat("v", 200)))
	if f.Hole() != all {
		t.Fatalf("Hole %d", f.Hole())
	}
	f.Evict()
	// A leaf of 3 bytes, an entry of 2 texts and 14 bytes more.
	if sectors := block.Count(3 + 2 + 1 + 1 + 2 + 200 + 8 + 1 + 2); f.Hole() != all-sectors {
		t.Fatalf("Hole %d, not %d", f.Hole(), all-sectors)
	}
	// The longest one, not the first one, nor all of them.
	f.store.space.Take(200, 1)
	if f.Hole() != 200-34-5 {
		t.Fatalf("Hole %d", f.Hole())
	}
	f.store.space.Take(100, 1)
	if f.Hole() != 99 {
		t.Fatalf("Hole %d", f.Hole())
	}
	f.store.space.Take(40, 60)
	f.store.space.Take(101, 99)
	f.store.space.Take(201, 55)
	if f.Hole() != 1 {
		t.Fatalf("Hole %d", f.Hole())
	}
	f.store.space.Take(39, 1)
	if f.Hole() != 0 {
		t.Fatalf("Hole %d", f.Hole())
	}
}
