package forest

import (
	"slices"
	"strings"
	"testing"
	"unsafe"

	"granary/api"
	"granary/block"
	"granary/disk"
	"granary/node"
	"granary/wal"
)

func TestExamples(t *testing.T) {
	d := newDisk(t, small)
	if errno := Format(d, small); errno != api.OK {
		t.Fatalf("Format: %v", errno)
	}
	f := mounted(t, d, small)
	if len(f.Trees()) != 0 || f.Room() != 32 {
		t.Fatalf("%v %d", f.Trees(), f.Room())
	}
	do(t, f, 0, api.OK, mk(5), put(5, "a", "1"))
	if f.Room() != 31 {
		t.Fatalf("Room %d", f.Room())
	}
	do(t, f, 7, api.OK, put(5, "a", "2"))
	do(t, f, 8, api.ErrBusy, put(5, "a", "2"))
	do(t, f, 0, api.ErrBusy, put(5, "a", "2"))
	do(t, f, 0, api.ErrBusy, drop(5))
	holds(t, f, 5, api.Entry{Key: "a", Has: true, Val: "1", Txn: 7, New: true, NewVal: "2"})
	d.Crash(nil)
	f = mounted(t, d, small)
	holds(t, f, 5, held("a", "1"))
	if len(f.Txns()) != 0 {
		t.Fatalf("Txns %v", f.Txns())
	}
	do(t, f, 7, api.ErrArg, mk(6))
	do(t, f, 0, api.ErrTwice, mk(5))
	do(t, f, 0, api.ErrNone, put(6, "a", "1"))
	if errno := f.Commit(9); errno != api.ErrNone {
		t.Fatalf("Commit(9): %v", errno)
	}
}

// P14.1

func TestSetups(t *testing.T) {
	setups := []struct {
		name   string
		ok     bool
		change func(c *api.Setup)
	}{
		{"as it is", true, func(c *api.Setup) {}},
		{"64 sectors", true, func(c *api.Setup) { c.Sectors = 64 }},
		{"63 sectors", false, func(c *api.Setup) { c.Sectors, c.Log = 63, 8 }},
		{"4096 sectors", true, func(c *api.Setup) { c.Sectors = 4096 }},
		{"4097 sectors", false, func(c *api.Setup) { c.Sectors = 4097 }},
		{"no sectors", false, func(c *api.Setup) { c.Sectors = 0 }},
		{"sectors below 0", false, func(c *api.Setup) { c.Sectors = -256 }},
		{"a log of 8", true, func(c *api.Setup) { c.Log = 8 }},
		{"a log of 7", false, func(c *api.Setup) { c.Log = 7 }},
		{"a log below 0", false, func(c *api.Setup) { c.Log = -8 }},
		{"a log of 1024", true, func(c *api.Setup) { c.Sectors, c.Log = 4096, 1024 }},
		{"a log of 1025", false, func(c *api.Setup) { c.Sectors, c.Log = 4096, 1025 }},
		{"a log that leaves 32", true, func(c *api.Setup) { c.Log = 256 - 32 }},
		{"a log that leaves 31", false, func(c *api.Setup) { c.Log = 256 - 31 }},
		{"Leaf 1", false, func(c *api.Setup) { c.Shape.Leaf = 1 }},
		{"Leaf 24", true, func(c *api.Setup) { c.Shape.Leaf = 24 }},
		{"Leaf 25", false, func(c *api.Setup) { c.Shape.Leaf = 25 }},
		{"Fan 1", false, func(c *api.Setup) { c.Shape.Fan = 1 }},
		{"Fan 16", true, func(c *api.Setup) { c.Shape.Fan = 16 }},
		{"Fan 17", false, func(c *api.Setup) { c.Shape.Fan = 17 }},
		{"Buf 0", false, func(c *api.Setup) { c.Shape.Buf = 0 }},
		{"Buf 1", true, func(c *api.Setup) { c.Shape.Buf = 1 }},
		{"Buf 32", true, func(c *api.Setup) { c.Shape.Buf = 32 }},
		{"Buf 33", false, func(c *api.Setup) { c.Shape.Buf = 33 }},
		{"Cache 0", false, func(c *api.Setup) { c.Cache = 0 }},
		{"Cache 1", true, func(c *api.Setup) { c.Cache = 1 }},
		{"Cache 256", true, func(c *api.Setup) { c.Cache = 256 }},
		{"Cache 257", false, func(c *api.Setup) { c.Cache = 257 }},
		{"Rows 0", false, func(c *api.Setup) { c.Rows = 0 }},
		{"Rows 1", true, func(c *api.Setup) { c.Rows = 1 }},
		{"Rows 32", true, func(c *api.Setup) { c.Rows = 32 }},
		{"Rows 33", false, func(c *api.Setup) { c.Rows = 33 }},
	}
	for _, s := range setups {
		c := small
		s.change(&c)
		d, errno := disk.New(min(max(c.Sectors, 8), api.MaxSectors))
		if errno != api.OK {
			t.Fatalf("%s: no disk", s.name)
		}
		want := api.OK
		if !s.ok {
			want = api.ErrArg
		}
		if errno := Format(d, c); errno != want {
			t.Errorf("Format with %s: %v", s.name, errno)
		}
		if f, errno := Mount(d, c); errno != want || (f != nil) != s.ok {
			t.Errorf("Mount with %s: %v %v", s.name, f, errno)
		}
	}
}

func TestFormatAndMountArgs(t *testing.T) {
	for _, c := range []api.Setup{small, {}} {
		if errno := Format(nil, c); errno != api.ErrState {
			t.Errorf("Format(nil): %v", errno)
		}
		if f, errno := Mount(nil, c); errno != api.ErrState || f != nil {
			t.Errorf("Mount(nil): %v %v", f, errno)
		}
	}
	for _, other := range []int{small.Sectors - 1, small.Sectors + 1} {
		d, _ := disk.New(other)
		if errno := Format(d, small); errno != api.ErrArg || d.Writes() != 0 {
			t.Errorf("Format of a disk of %d sectors: %v", other, errno)
		}
		d = formatted(t, api.Setup{Sectors: other, Log: small.Log, Shape: small.Shape, Cache: 2, Rows: 2})
		if f, errno := Mount(d, small); errno != api.ErrArg || f != nil {
			t.Errorf("Mount of a disk of %d sectors: %v %v", other, f, errno)
		}
	}
}

// isEmpty fails unless a forest is as new.
func isEmpty(t *testing.T, f *Forest) {
	t.Helper()
	if len(f.Trees()) != 0 || len(f.Txns()) != 0 || f.Room() != f.setup.Log {
		t.Fatalf("not as new: %v %v %d", f.Trees(), f.Txns(), f.Room())
	}
	if hole := f.Hole(); hole != f.setup.Sectors-f.setup.Log-2 {
		t.Fatalf("not all free: %d", hole)
	}
}

func TestFormatIsSynced(t *testing.T) {
	d := formatted(t, small)
	if d.Waiting() != 0 || d.Syncs() == 0 {
		t.Fatalf("%d wait", d.Waiting())
	}
	d.Crash(nil)
	isEmpty(t, mounted(t, d, small))
}

// used answers a disk with a forest that has trees, a checkpoint, records behind it, and an open transaction.
func used(t *testing.T, c api.Setup) *disk.Disk {
	t.Helper()
	d, f := planted(t, c, 1, 2)
	for i := range 6 {
		do(t, f, 0, api.OK, put(1, string(rune('a'+i)), "old"))
	}
	checkpoint(t, f)
	do(t, f, 7, api.OK, put(1, "t", "old"))
	do(t, f, 0, api.OK, put(2, "z", "old"), del(1, "a"))
	return d
}

func TestFormatAnew(t *testing.T) {
	larger := small
	larger.Log, larger.Shape.Leaf = 64, 3
	for _, before := range []api.Setup{small, larger} {
		for _, now := range []api.Setup{small, larger} {
			for wiped := range 4 {
				d := used(t, before)
				// Who knows no header knows nothing of what lies in the log.
				for sector := range 2 {
					if wiped>>sector&1 != 0 {
						d.Write(sector, nil)
					}
				}
				if errno := Format(d, now); errno != api.OK || d.Waiting() != 0 {
					t.Fatalf("Format: %v", errno)
				}
				isEmpty(t, mounted(t, d, now))
				f := mounted(t, d, now)
				isEmpty(t, f)
				do(t, f, 0, api.OK, mk(1))
				d.Crash(nil)
				f = mounted(t, d, now)
				holds(t, f, 1)
			}
		}
	}
}

func TestFormatOfAnything(t *testing.T) {
	for seed := range 20 {
		r := chance(seed)
		d := newDisk(t, small)
		for sector := range small.Sectors {
			b := make([]byte, api.Sector)
			r.Read(b)
			d.Write(sector, b)
		}
		// Records as a forest's log has them.
		l, _, _ := wal.Open(d, 2, small.Log, 1, uint32(1+seed%3), 1)
		l.Append(record{kind: recDo, ops: []Op{mk(1)}}.bytes())
		if f, errno := Mount(d, small); errno != api.ErrBad || f != nil {
			t.Fatalf("Mount: %v %v", f, errno)
		}
		if errno := Format(d, small); errno != api.OK {
			t.Fatalf("Format: %v", errno)
		}
		isEmpty(t, mounted(t, d, small))
	}
}

func TestFormatWithoutPower(t *testing.T) {
	d := newDisk(t, small)
	for n := range 100 {
		d.Fuse(n)
		errno := Format(d, small)
		if errno == api.OK {
			if n < 1 {
				t.Fatalf("formatted by %d writes", n)
			}
			d.Crash(nil)
			isEmpty(t, mounted(t, d, small))
			return
		}
		if errno != api.ErrDown {
			t.Fatalf("Format: %v", errno)
		}
		if errno := Format(d, small); errno != api.ErrDown {
			t.Fatalf("Format while the power is gone: %v", errno)
		}
		if f, errno := Mount(d, small); errno != api.ErrBad || f != nil {
			t.Fatalf("Mount while the power is gone: %v %v", f, errno)
		}
		d.Crash([]int{1, 1, 1, 0, 1})
		if f, errno := Mount(d, small); errno != api.ErrBad || f != nil {
			t.Fatalf("Mount: %v %v", f, errno)
		}
	}
	t.Fatalf("never formatted")
}

func TestFormatOfAForestWithoutPower(t *testing.T) {
	for n := range 100 {
		d := used(t, small)
		d.Fuse(n)
		errno := Format(d, small)
		d.Crash([]int{1, 1, 1, 0, 1})
		f := mounted(t, d, small)
		if errno == api.OK {
			isEmpty(t, f)
			return
		}
		if e, _ := f.Get(2, "z"); errno != api.ErrDown || e != held("z", "old") {
			t.Fatalf("Format: %v; then %v", errno, e)
		}
	}
	t.Fatalf("never formatted")
}

func TestMountOfNoForest(t *testing.T) {
	d := newDisk(t, small)
	if f, errno := Mount(d, small); errno != api.ErrBad || f != nil || d.Writes() != 0 {
		t.Fatalf("Mount of a new disk: %v %v", f, errno)
	}
	// One whose setup another disk was formatted with.
	for _, change := range []func(c *api.Setup){
		func(c *api.Setup) { c.Log++ },
		func(c *api.Setup) { c.Shape.Leaf++ },
		func(c *api.Setup) { c.Shape.Fan++ },
		func(c *api.Setup) { c.Shape.Buf++ },
	} {
		d := used(t, small)
		c := small
		change(&c)
		if f, errno := Mount(d, c); errno != api.ErrBad || f != nil {
			t.Fatalf("Mount of another setup's: %v %v", f, errno)
		}
	}
}

func TestMountWithoutPower(t *testing.T) {
	d := used(t, small)
	d.Fuse(0)
	if f, errno := Mount(d, small); errno != api.ErrDown || f != nil || !d.Down() {
		t.Fatalf("Mount: %v %v", f, errno)
	}
	if f, errno := Mount(d, small); errno != api.ErrDown || f != nil {
		t.Fatalf("Mount while the power is gone: %v %v", f, errno)
	}
	d.Crash(nil)
	f := mounted(t, d, small)
	holds(t, f, 2, held("z", "old"))
}

func TestMountOfDamage(t *testing.T) {
	for _, logged := range []bool{true, false} {
		d := used(t, small)
		if !logged {
			f := mounted(t, d, small)
			checkpoint(t, f)
		}
		damage(t, d)
	}
}

// damage changes each byte of a disk that has a forest.
func damage(t *testing.T, whole *disk.Disk) {
	t.Helper()
	needed := map[int]bool{}
	for _, p := range mounted(t, copyOf(t, whole), small).needed {
		for i := range p.count {
			needed[p.start+i] = true
		}
	}
	bad := 0
	for sector := range small.Sectors {
		for at := range api.Sector {
			b, _ := whole.Read(sector)
			if at > 0 && !slices.ContainsFunc(b, func(x byte) bool { return x != 0 }) {
				continue
			}
			d := copyOf(t, whole)
			b[at] ^= byte(1 << (at % 8))
			d.Write(sector, b)
			f, errno := Mount(d, small)
			// By its first bytes a sector is one of a block.
			isTold := needed[sector] && at < 14
			if errno != api.ErrBad && (errno != api.OK || isTold) || (f != nil) != (errno == api.OK) {
				t.Fatalf("Mount with the byte %d of the sector %d changed: %v %v", at, sector, f, errno)
			}
			if errno == api.ErrBad {
				bad++
				continue
			}
			// Whatever it holds, it goes on.
			stateOf(t, f)
			f.Do(0, []Op{drop(1), drop(2)})
			for range 30 {
				f.Checkpoint()
			}
		}
	}
	if bad < 100 {
		t.Fatalf("just %d were bad", bad)
	}
}

func TestMountOfAnotherMap(t *testing.T) {
	h := header{turn: 9, mount: 9, least: 9, head: 1, start: 40, block: 1, setup: small}
	leaf := api.Node{Leaf: true, Entries: []api.Entry{held("a", "1")}}
	inner := func(kids ...uint64) api.Node {
		n := api.Node{Kids: kids, Bufs: make([][]api.Msg, len(kids))}
		for i := range len(kids) - 1 {
			n.Pivots = append(n.Pivots, string(rune('b'+i)))
		}
		return n
	}
	none := header{}
	at := func(start int) *place { return &place{start: start, block: uint64(start)} }
	nodes := func(l ...api.Node) map[int][]byte {
		m := map[int][]byte{}
		for i, n := range l {
			m[50+i], _ = node.Encode(n)
		}
		return m
	}
	roots := map[int]uint64{1: 1}
	for name, c := range map[string]struct {
		want   api.Errno
		part   []byte
		blocks map[int][]byte
	}{
		"a leaf":          {api.OK, partBytes(none, mapBytes(roots, map[uint64]*place{1: at(50)})), nodes(leaf)},
		"kids":            {api.OK, partBytes(none, mapBytes(roots, map[uint64]*place{1: at(50), 2: at(51), 3: at(52)})), nodes(inner(2, 3), leaf, api.Node{Leaf: true})},
		"no part":         {api.ErrBad, []byte{0, 0, 0, 0, 0, 0, 0, 0, 0}, nil},
		"no bytes":        {api.ErrBad, nil, nil},
		"a part in a row": {api.ErrBad, partBytes(header{start: 40, block: 1}, []byte{0}), nil},
		"a part nowhere":  {api.ErrBad, partBytes(header{start: 999, block: 1}, []byte{0}), nil},
		"no map":          {api.ErrBad, partBytes(none, []byte{1}), nil},
		"a byte more":     {api.ErrBad, partBytes(none, append(mapBytes(roots, map[uint64]*place{1: at(50)}), 0)), nodes(leaf)},
		"no node":         {api.ErrBad, partBytes(none, mapBytes(roots, map[uint64]*place{1: at(50)})), nil},
		"no root":         {api.ErrBad, partBytes(none, mapBytes(roots, map[uint64]*place{2: at(50)})), nodes(leaf)},
		"no kid":          {api.ErrBad, partBytes(none, mapBytes(roots, map[uint64]*place{1: at(50), 2: at(51)})), nodes(inner(2, 3), leaf)},
		"a ring":          {api.ErrBad, partBytes(none, mapBytes(roots, map[uint64]*place{1: at(50), 2: at(51)})), nodes(inner(2, 1), leaf)},
		"one place twice": {api.ErrBad, partBytes(none, mapBytes(map[int]uint64{1: 1, 2: 2}, map[uint64]*place{1: at(50), 2: at(50)})), nodes(leaf)},
		"a part's place":  {api.ErrBad, partBytes(none, mapBytes(roots, map[uint64]*place{1: {start: 40, block: 1}})), nil},
		"the log's place": {api.ErrBad, partBytes(none, mapBytes(roots, map[uint64]*place{1: at(10)})), map[int][]byte{10: {1, 0, 0}}},
		"other bytes":     {api.ErrBad, partBytes(none, mapBytes(roots, map[uint64]*place{1: at(50)})), map[int][]byte{50: {1, 0, 0, 0}}},
	} {
		d := newDisk(t, small)
		h.write(d)
		block.Write(d, h.start, h.block, c.part)
		for start, b := range c.blocks {
			block.Write(d, start, uint64(start), b)
		}
		f, errno := Mount(d, small)
		if errno != c.want || (f != nil) != (c.want == api.OK) {
			t.Errorf("Mount with %s: %v", name, errno)
		}
		if errno == api.OK {
			holds(t, f, 1, held("a", "1"))
			audit(t, f)
		}
	}
}

func TestMountOfAnotherLog(t *testing.T) {
	// Records that no forest would have written in this state.
	for name, b := range map[string][]byte{
		"nothing":              {},
		"a byte":               {1},
		"a record of kind 0":   make([]byte, 9),
		"a record of kind 4":   append([]byte{4}, make([]byte, 8)...),
		"a byte more":          append(record{kind: recDo, ops: []Op{mk(3)}}.bytes(), 0),
		"a byte less":          record{kind: recDo, ops: []Op{mk(3)}}.bytes()[:28],
		"a make twice":         record{kind: recDo, ops: []Op{mk(1)}}.bytes(),
		"a make with a key":    append(append(record{kind: recDo, ops: []Op{mk(3)}}.bytes()[:15], 0, 1, 'k'), make([]byte, 12)...),
		"a put nowhere":        record{kind: recDo, ops: []Op{put(3, "a", "")}}.bytes(),
		"a make in one":        record{kind: recDo, txn: 5, ops: []Op{mk(3)}}.bytes(),
		"a key of another":     record{kind: recDo, txn: 5, ops: []Op{put(1, "b", "")}}.bytes(),
		"a commit of none":     record{kind: recCommit, txn: 5}.bytes(),
		"an abort of none":     record{kind: recAbort}.bytes(),
		"a commit and a byte":  append(record{kind: recCommit, txn: 7}.bytes(), 0),
		"a commit of one":      record{kind: recCommit, txn: 7}.bytes(),
		"a make that is right": record{kind: recDo, ops: []Op{mk(3)}}.bytes(),
	} {
		d, _ := prepared(t, small)
		h, _ := newest(d)
		l, _, _ := wal.Open(d, 2, small.Log, h.least, h.mount, h.head)
		if _, errno := l.Append(b); errno != api.OK {
			t.Fatalf("Append: %v", errno)
		}
		want := api.ErrBad
		if name == "a commit of one" || name == "a make that is right" {
			want = api.OK
		}
		if f, errno := Mount(d, small); errno != want || (f != nil) != (want == api.OK) {
			t.Errorf("Mount with %s in its log: %v %v", name, f, errno)
		}
	}
}

// P14.2

// prepared answers a forest with the trees 1 and 2; 7 has touched "b" of the tree 1.
func prepared(t *testing.T, c api.Setup) (*disk.Disk, *Forest) {
	t.Helper()
	d, f := planted(t, c, 1, 2)
	do(t, f, 0, api.OK, put(1, "a", "1"), put(2, "a", "2"))
	do(t, f, 7, api.OK, put(1, "b", "3"))
	return d, f
}

func msgOp(m api.Msg) Op { return Op{Kind: OpMsg, Tree: 1, Msg: m} }

func TestDoErrors(t *testing.T) {
	long, longest := strings.Repeat("k", 257), strings.Repeat("v", 513)
	calls := []struct {
		name string
		txn  uint64
		want api.Errno
		ops  []Op
	}{
		{"kind 0", 0, api.ErrArg, []Op{{Kind: 0, Tree: 1}}},
		{"kind 4", 0, api.ErrArg, []Op{{Kind: 4, Tree: 1}}},
		{"kind below 0", 0, api.ErrArg, []Op{{Kind: -1, Tree: 1}}},
		{"tree 0", 0, api.ErrArg, []Op{mk(0)}},
		{"tree below 0", 0, api.ErrArg, []Op{drop(-1)}},
		{"tree 65536", 0, api.ErrArg, []Op{mk(65536)}},
		{"a message to the tree 0", 0, api.ErrArg, []Op{put(0, "a", "")}},
		{"no message", 0, api.ErrArg, []Op{msgOp(api.Msg{})}},
		{"a commit", 7, api.ErrArg, []Op{msgOp(api.Msg{Kind: api.MsgCommit, Key: "b", Txn: 7})}},
		{"a commit of a long key", 7, api.ErrArg, []Op{msgOp(api.Msg{Kind: api.MsgCommit, Key: long, Txn: 7})}},
		{"an abort", 0, api.ErrArg, []Op{msgOp(api.Msg{Kind: api.MsgAbort, Key: long})}},
		{"a message of kind 7", 0, api.ErrArg, []Op{msgOp(api.Msg{Kind: 7})}},
		{"a put with Off", 0, api.ErrArg, []Op{msgOp(api.Msg{Kind: api.MsgPut, Off: 1})}},
		{"a put with Num", 8, api.ErrArg, []Op{msgOp(api.Msg{Kind: api.MsgPut, Num: 1})}},
		{"a del with Val", 0, api.ErrArg, []Op{msgOp(api.Msg{Kind: api.MsgDel, Val: "v"})}},
		{"an add at -1", 0, api.ErrArg, []Op{add(1, "a", -1, 1)}},
		{"an add at 505", 0, api.ErrArg, []Op{add(1, "a", 505, 1)}},
		{"a grow of 255", 0, api.ErrArg, []Op{grow(1, 255, "")}},
		{"a grow with a key", 0, api.ErrArg, []Op{msgOp(api.Msg{Kind: api.MsgGrow, Key: "a"})}},
		{"a make in a transaction", 8, api.ErrArg, []Op{mk(3)}},
		{"a drop in a transaction", 7, api.ErrArg, []Op{drop(2)}},
		{"a grow in a transaction", 7, api.ErrArg, []Op{grow(2, 1, "x")}},
		{"a long grow in a transaction", 7, api.ErrArg, []Op{grow(2, 1, longest)}},
		{"a long key", 0, api.ErrBound, []Op{put(1, long, "")}},
		{"a long value", 8, api.ErrBound, []Op{put(1, "c", longest)}},
		{"a long grow", 0, api.ErrBound, []Op{grow(1, 1, longest)}},
		{"a long key to no tree", 0, api.ErrBound, []Op{put(3, long, "")}},
		{"a tree that is there", 0, api.ErrTwice, []Op{mk(1)}},
		{"a tree that is made twice", 0, api.ErrTwice, []Op{mk(3), mk(3)}},
		{"no tree to drop", 0, api.ErrNone, []Op{drop(3)}},
		{"no tree for a message", 8, api.ErrNone, []Op{put(3, "a", "")}},
		{"no tree to grow", 0, api.ErrNone, []Op{grow(3, 0, "")}},
		{"a tree that is dropped twice", 0, api.ErrNone, []Op{drop(2), drop(2)}},
		{"a message to what was dropped", 0, api.ErrNone, []Op{drop(2), put(2, "a", "")}},
		{"a tree that is made, dropped, and gets a message", 0, api.ErrNone, []Op{mk(3), drop(3), put(3, "a", "")}},
		{"a tree that is dropped, made, and made", 0, api.ErrTwice, []Op{drop(2), mk(2), mk(2)}},
		{"a key of 7", 0, api.ErrBusy, []Op{put(1, "b", "")}},
		{"a key of 7 for 8", 8, api.ErrBusy, []Op{del(1, "b")}},
		{"a key of 7 to add to", 8, api.ErrBusy, []Op{add(1, "b", 0, 1)}},
		{"a tree with a key of 7", 0, api.ErrBusy, []Op{drop(1)}},
		{"what is right, and a key of 7", 8, api.ErrBusy, []Op{put(1, "a", ""), put(1, "b", "")}},
		{"a bad one behind one that is held", 0, api.ErrBusy, []Op{put(1, "b", ""), {}}},
		{"one that is held behind a bad one", 0, api.ErrArg, []Op{{}, put(1, "b", "")}},
		{"too much, the last one bad", 0, api.ErrArg, append(slices.Repeat([]Op{put(1, "a", "")}, 65536), Op{})},
		{"too much, the last one held", 0, api.ErrBusy, append(slices.Repeat([]Op{put(1, "a", "")}, 2000), put(1, "b", ""))},
		{"65536 operations", 0, api.ErrBound, slices.Repeat([]Op{put(1, "a", "")}, 65536)},
		{"2000 operations", 8, api.ErrBound, slices.Repeat([]Op{put(1, "a", "")}, 2000)},
		{"more than the log", 0, api.ErrFull, slices.Repeat([]Op{put(1, "a", "")}, 100)},
	}
	_, f := prepared(t, small)
	was, room := stateOf(t, f), f.Room()
	for _, c := range calls {
		do := f.Do(c.txn, c.ops)
		if do != c.want {
			t.Errorf("%s: %v, not %v", c.name, do, c.want)
		}
		if !same(stateOf(t, f), was) || f.Room() != room || !slices.Equal(f.Txns(), []uint64{7}) {
			t.Fatalf("%s changed something", c.name)
		}
	}
}

func TestDoRightOnes(t *testing.T) {
	longKey, longVal := strings.Repeat("k", 256), strings.Repeat("v", 512)
	calls := []struct {
		name string
		txn  uint64
		ops  []Op
	}{
		{"the greatest tree", 0, []Op{mk(65535), put(65535, "", "")}},
		{"a long key and value", 8, []Op{put(1, longKey, longVal)}},
		{"a long key and value at once", 0, []Op{put(2, longKey, longVal)}},
		{"an add at 504", 0, []Op{add(1, "a", 504, 1)}},
		{"a grow of 254", 0, []Op{grow(1, 254, longVal)}},
		{"a grow over keys of 7", 0, []Op{grow(1, '3', "x")}},
		{"its own key again", 7, []Op{put(1, "b", "4"), del(1, "b")}},
		{"the same key of another tree", 8, []Op{put(2, "b", "4")}},
		{"a tree without touched keys", 0, []Op{mk(9), drop(9)}},
		{"a tree that is dropped and made anew", 0, []Op{mk(9), put(9, "a", "1"), drop(9), mk(9), put(9, "b", "2")}},
		{"Seq and Txn that play no part", 0, []Op{msgOp(api.Msg{Seq: 1, Kind: api.MsgPut, Key: "s", Txn: 7, Val: "1"})}},
		{"a grow with a Txn", 0, []Op{msgOp(api.Msg{Seq: 1, Kind: api.MsgGrow, Off: '1', Txn: 7, Val: "1"})}},
		{"a make with a message", 0, []Op{{Kind: OpMake, Tree: 10, Msg: api.Msg{Kind: 9, Key: longVal}}}},
		{"a drop with a message", 0, []Op{{Kind: OpDrop, Tree: 10, Msg: api.Msg{Kind: api.MsgPut, Key: "b"}}}},
		{"the greatest transaction", 1<<64 - 1, []Op{put(1, "g", "")}},
	}
	_, f := prepared(t, wide)
	p := newPlain(wide.Log)
	p.do(0, []Op{mk(1)})
	p.do(0, []Op{mk(2)})
	p.do(0, []Op{put(1, "a", "1"), put(2, "a", "2")})
	p.do(7, []Op{put(1, "b", "3")})
	for _, c := range calls {
		do(t, f, c.txn, api.OK, c.ops...)
		if errno := p.do(c.txn, c.ops); errno != api.OK {
			t.Fatalf("%s: %v", c.name, errno)
		}
		agrees(t, f, p)
	}
}

func TestDoOfNothing(t *testing.T) {
	d, f := prepared(t, small)
	room, writes := f.Room(), d.Writes()
	do(t, f, 0, api.OK)
	do(t, f, 9, api.OK)
	if f.Room() != room || d.Writes() != writes || !slices.Equal(f.Txns(), []uint64{7}) {
		t.Fatalf("Do of nothing did something")
	}
	if errno := f.Commit(9); errno != api.ErrNone {
		t.Fatalf("Commit: %v", errno)
	}
}

// sized answers operations whose record has so many bytes.
func sized(tree, size int) []Op {
	var ops []Op
	for size -= 11; size > 0; {
		n := min(size, 18+512)
		if rest := size - n; rest > 0 && rest < 18 {
			n -= 18
		}
		ops = append(ops, put(tree, "", strings.Repeat("v", n-18)))
		size -= n
	}
	return ops
}

func TestDoBounds(t *testing.T) {
	_, f := planted(t, wide, 1)
	room := f.Room()
	do(t, f, 0, api.ErrBound, sized(1, api.MaxBlock+1)...)
	if f.Room() != room {
		t.Fatalf("Room %d", f.Room())
	}
	do(t, f, 0, api.OK, sized(1, api.MaxBlock)...)
	if f.Room() != room-656 {
		t.Fatalf("Room %d, not %d", f.Room(), room-656)
	}
	// Too long comes ahead of too full.
	do(t, f, 0, api.ErrFull, sized(1, api.MaxBlock)...)
	do(t, f, 0, api.ErrBound, sized(1, api.MaxBlock+1)...)
}

func TestDoFull(t *testing.T) {
	c := small
	c.Log = 8
	for open := range 4 {
		for _, txn := range []uint64{0, 1, 9} {
			for size := 2; size <= 9; size++ {
				d, f := planted(t, c, 1)
				checkpoint(t, f)
				for i := range open {
					do(t, f, uint64(1+i), api.OK, put(1, string(rune('a'+i)), ""))
				}
				reserve := open
				if txn == 9 || txn == 1 && open == 0 {
					reserve++
				}
				room, want := f.Room(), api.OK
				if room-size < reserve {
					want = api.ErrFull
				}
				// As many pieces, the last one full or with a byte.
				for _, bytes := range []int{50 * size, 50*size - 49} {
					if errno := f.Do(txn, sized(1, bytes)); errno != want {
						t.Fatalf("Do(%d) of %d pieces where %d are open and %d left: %v", txn, size, open, room, errno)
					}
					if want == api.OK {
						room -= size
						break
					}
				}
				if f.Room() != room {
					t.Fatalf("Room %d, not %d", f.Room(), room)
				}
				for _, txn := range f.Txns() {
					if errno := f.Commit(txn); errno != api.OK || d.Waiting() != 0 {
						t.Fatalf("Commit: %v", errno)
					}
				}
			}
		}
	}
}

// records answers what lies in a log from its first piece on.
func records(t *testing.T, d *disk.Disk, c api.Setup) []string {
	t.Helper()
	_, recs, errno := wal.Open(d, 2, c.Log, 1, 1<<30, 1)
	if errno != api.OK {
		t.Fatalf("no log: %v", errno)
	}
	var l []string
	for _, rec := range recs {
		l = append(l, string(rec.Data))
	}
	return l
}

func TestRecords(t *testing.T) {
	d, f := planted(t, small)
	do(t, f, 0, api.OK, Op{Kind: OpMake, Tree: 258, Msg: api.Msg{Kind: api.MsgPut, Key: "k", Val: "v", Num: 1}}, mk(5))
	do(t, f, 0x0102030405060708, api.OK, put(5, "ab", "xyz"), add(5, "", 504, 0x1112131415161718))
	do(t, f, 3, api.OK, Op{Kind: OpMsg, Tree: 258, Msg: api.Msg{Seq: 9, Kind: api.MsgDel, Key: "k", Txn: 9}})
	f.Commit(0x0102030405060708)
	f.Abort(3)
	do(t, f, 0, api.OK, grow(5, 254, "g"), drop(258))
	none := strings.Repeat("\x00", 15)
	want := []string{
		"\x01" + "\x00\x00\x00\x00\x00\x00\x00\x00" + "\x00\x02" + "\x02\x01\x02" + none + "\x02\x00\x05" + none,
		"\x01" + "\x01\x02\x03\x04\x05\x06\x07\x08" + "\x00\x02" +
			"\x01\x00\x05" + "\x01\x00\x02ab\x00\x03xyz\x00\x00\x00\x00\x00\x00\x00\x00\x00\x00" +
			"\x01\x00\x05" + "\x03\x00\x00\x00\x00\x01\xf8\x11\x12\x13\x14\x15\x16\x17\x18",
		"\x01" + "\x00\x00\x00\x00\x00\x00\x00\x03" + "\x00\x01" +
			"\x01\x01\x02" + "\x02\x00\x01k\x00\x00\x00\x00\x00\x00\x00\x00\x00\x00\x00\x00",
		"\x02\x01\x02\x03\x04\x05\x06\x07\x08",
		"\x03\x00\x00\x00\x00\x00\x00\x00\x03",
		"\x01" + "\x00\x00\x00\x00\x00\x00\x00\x00" + "\x00\x02" +
			"\x01\x00\x05" + "\x04\x00\x00\x00\x01g\x00\xfe\x00\x00\x00\x00\x00\x00\x00\x00" + "\x03\x01\x02" + none,
	}
	if l := records(t, d, small); !slices.Equal(l, want) {
		t.Fatalf("the log holds %q\nnot %q", l, want)
	}
}

func TestDoIsSyncedAtOnce(t *testing.T) {
	c := wide
	c.Cache = 256
	d, f := planted(t, c, 1)
	syncs := d.Syncs()
	do(t, f, 7, api.OK, put(1, "a", "1"))
	if d.Waiting() != 1 || d.Syncs() != syncs {
		t.Fatalf("a transaction's Do is synced")
	}
	do(t, f, 0, api.OK, put(1, "b", "2"))
	if d.Waiting() != 0 {
		t.Fatalf("a Do at once isn't synced")
	}
	d.Crash(nil)
	holds(t, mounted(t, d, c), 1, held("b", "2"))
}

// P14.3

func TestEnds(t *testing.T) {
	for _, commit := range []bool{true, false} {
		for _, over := range []string{"nothing", "a checkpoint", "a checkpoint behind", "a crash"} {
			d, f := planted(t, wide, 1, 2)
			do(t, f, 0, api.OK, put(1, "a", "0"), put(1, "b", "0"), put(2, "a", "0"))
			do(t, f, 7, api.OK, put(1, "a", "1"), del(1, "b"))
			do(t, f, 8, api.OK, put(2, "b", "8"))
			if over == "a checkpoint" {
				checkpoint(t, f)
			}
			do(t, f, 7, api.OK, put(2, "c", "2"))
			do(t, f, 0, api.OK, put(2, "d", "3"))
			end, want1, want2 := f.Abort, []api.Entry{held("a", "0"), held("b", "0")}, []api.Entry{held("a", "0")}
			if commit {
				end, want1, want2 = f.Commit, []api.Entry{held("a", "1")}, []api.Entry{held("a", "0"), held("c", "2")}
			}
			if errno := end(7); errno != api.OK {
				t.Fatalf("the end: %v", errno)
			}
			if errno := end(7); errno != api.ErrNone || !slices.Equal(f.Txns(), []uint64{8}) {
				t.Fatalf("the end again: %v; %v", errno, f.Txns())
			}
			if over == "a checkpoint behind" {
				checkpoint(t, f)
			}
			if over == "a crash" {
				d.Crash(nil)
				f = mounted(t, d, wide)
			} else {
				// The other one goes on.
				holds(t, f, 2, slices.Insert(slices.Clone(append(want2, held("d", "3"))), 1,
					api.Entry{Key: "b", Txn: 8, New: true, NewVal: "8"})...)
				f.Abort(8)
			}
			holds(t, f, 1, want1...)
			holds(t, f, 2, append(want2, held("d", "3"))...)
			do(t, f, 0, api.OK, put(1, "a", ""), put(1, "b", ""), put(2, "b", ""), drop(1), drop(2))
		}
	}
}

func TestEndsOnceForEachKey(t *testing.T) {
	_, f := planted(t, wide, 1, 2)
	do(t, f, 7, api.OK, put(1, "a", "1"), put(1, "b", "1"), del(1, "a"), put(2, "a", "1"))
	do(t, f, 7, api.OK, put(1, "a", "1"), put(2, "b", "1"))
	seq := f.seq
	if errno := f.Commit(7); errno != api.OK || f.seq != seq+4 {
		t.Fatalf("Commit: %v; %d messages", errno, f.seq-seq)
	}
}

func TestEndsOfNone(t *testing.T) {
	_, f := prepared(t, small)
	room := f.Room()
	for _, txn := range []uint64{0, 1, 8, 1<<64 - 1} {
		if errno := f.Commit(txn); errno != api.ErrNone {
			t.Errorf("Commit(%d): %v", txn, errno)
		}
		if errno := f.Abort(txn); errno != api.ErrNone {
			t.Errorf("Abort(%d): %v", txn, errno)
		}
	}
	if f.Room() != room || !slices.Equal(f.Txns(), []uint64{7}) {
		t.Fatalf("something has changed")
	}
}

func TestCommitIsSynced(t *testing.T) {
	d, f := planted(t, wide, 1)
	do(t, f, 7, api.OK, put(1, "a", "1"))
	do(t, f, 8, api.OK, put(1, "b", "1"))
	if errno := f.Commit(7); errno != api.OK || d.Waiting() != 0 {
		t.Fatalf("Commit: %v; %d wait", errno, d.Waiting())
	}
	if errno := f.Abort(8); errno != api.OK || d.Waiting() != 1 {
		t.Fatalf("Abort: %v; %d wait", errno, d.Waiting())
	}
	d.Crash(nil)
	f = mounted(t, d, wide)
	holds(t, f, 1, held("a", "1"))
	// What was open is ended by the mount, also for the log.
	do(t, f, 8, api.OK, put(1, "c", "1"))
	f.Commit(8)
	d.Crash(nil)
	holds(t, mounted(t, d, wide), 1, held("a", "1"), held("c", "1"))
}

func TestNumbersOfTransactionsAgain(t *testing.T) {
	for _, keep := range []bool{false, true} {
		for _, checkpointed := range []int{0, 1, 2, 3} {
			d, f := planted(t, wide, 1)
			do(t, f, 7, api.OK, put(1, "a", "1"))
			do(t, f, 0, api.OK, put(1, "z", "1"))
			if checkpointed&1 != 0 {
				checkpoint(t, f)
			}
			d.Crash(nil)
			f = mounted(t, d, wide)
			if keep {
				// Another mount, with the end of the transaction lost or not.
				d.Crash(nil)
				f = mounted(t, d, wide)
			}
			do(t, f, 7, api.OK, put(1, "b", "1"))
			if checkpointed&2 != 0 {
				checkpoint(t, f)
			}
			if errno := f.Commit(7); errno != api.OK {
				t.Fatalf("Commit: %v", errno)
			}
			holds(t, f, 1, held("b", "1"), held("z", "1"))
			d.Crash(nil)
			holds(t, mounted(t, d, wide), 1, held("b", "1"), held("z", "1"))
		}
	}
}

func TestEndsAreNeverFull(t *testing.T) {
	for _, c := range []api.Setup{small, {Sectors: 64, Log: 8, Shape: small.Shape, Cache: 1, Rows: 1}} {
		for _, crash := range []bool{false, true} {
			d, f := planted(t, c, 1)
			n := uint64(0)
			for f.Do(n+1, []Op{put(1, string(rune('a'+n)), "x")}) == api.OK {
				n++
			}
			if room := f.Room(); int(n) != (c.Log-1)/2 || room < int(n) || room > int(n)+1 {
				t.Fatalf("%d are open, Room %d", n, room)
			}
			do(t, f, 0, api.ErrFull, put(1, "", strings.Repeat("x", 50)))
			if crash {
				d.Sync()
				d.Crash(nil)
				f = mounted(t, d, c)
				holds(t, f, 1)
				continue
			}
			for txn := range n {
				end := f.Commit
				if txn%2 == 0 {
					end = f.Abort
				}
				if errno := end(txn + 1); errno != api.OK {
					t.Fatalf("the end of %d: %v", txn+1, errno)
				}
			}
		}
	}
}

// P14.4

func TestReads(t *testing.T) {
	_, f := planted(t, small, 300, 5, 65535)
	do(t, f, 0, api.OK, put(5, "a", "1"), put(5, "b", "2"), put(5, "c", "3"), put(5, "d", "4"))
	do(t, f, 9, api.OK, del(5, "c"), put(5, "e", "5"))
	do(t, f, 1<<63, api.OK, put(5, "a", "6"))
	do(t, f, 2, api.OK, put(300, "a", "6"))
	if l := f.Trees(); !slices.Equal(l, []int{5, 300, 65535}) {
		t.Errorf("Trees %v", l)
	}
	if l := f.Txns(); !slices.Equal(l, []uint64{2, 9, 1 << 63}) {
		t.Errorf("Txns %v", l)
	}
	if e, errno := f.Get(5, "c"); errno != api.OK || e != (api.Entry{Key: "c", Has: true, Val: "3", Txn: 9}) {
		t.Errorf("Get: %v %v", e, errno)
	}
	if e, errno := f.Get(65535, "c"); errno != api.OK || e != (api.Entry{Key: "c"}) {
		t.Errorf("Get of no entry: %v %v", e, errno)
	}
	if l, errno := f.Scan(5, api.Span{Lo: "b", Hi: "d"}, -1); errno != api.OK || len(l) != 2 || l[0] != held("b", "2") {
		t.Errorf("Scan: %v %v", l, errno)
	}
	if l, errno := f.Scan(5, all, 1); errno != api.OK || len(l) != 1 || l[0].Key != "a" {
		t.Errorf("Scan of one: %v %v", l, errno)
	}
	for txn, want := range map[uint64]string{0: "1234", 9: "1245", 1 << 63: "6234", 77: "1234"} {
		c, errno := f.Cursor(5, all, txn)
		if errno != api.OK {
			t.Fatalf("Cursor: %v", errno)
		}
		got := ""
		for p, ok := c.Next(); ok; p, ok = c.Next() {
			got += p.Val
		}
		if got != want {
			t.Errorf("Cursor of %d: %s, not %s", txn, got, want)
		}
	}
	for _, tree := range []int{-1, 0, 1, 6, 65536, 1 << 40} {
		e, errno1 := f.Get(tree, "a")
		l, errno2 := f.Scan(tree, all, -1)
		c, errno3 := f.Cursor(tree, all, 0)
		waited, errno4 := f.Flush(tree)
		if errno1 != api.ErrNone || errno2 != api.ErrNone || errno3 != api.ErrNone || errno4 != api.ErrNone {
			t.Errorf("of the tree %d: %v %v %v %v", tree, errno1, errno2, errno3, errno4)
		}
		if e != (api.Entry{}) || l != nil || c != nil || waited {
			t.Errorf("of the tree %d: %v %v %v %v", tree, e, l, c, waited)
		}
	}
}

func TestCursorOverEvictions(t *testing.T) {
	_, f := planted(t, small, 1)
	for i := range 20 {
		do(t, f, 0, api.OK, put(1, string(rune('a'+i)), "x"))
	}
	checkpoint(t, f)
	c, _ := f.Cursor(1, all, 0)
	for i := range 20 {
		if p, ok := c.Next(); !ok || p.Key != string(rune('a'+i)) {
			t.Fatalf("the pair %d: %v %v", i, p, ok)
		}
		f.Evict()
		f.Checkpoint()
	}
	if p, ok := c.Next(); ok {
		t.Fatalf("one more pair: %v", p)
	}
}

// P14.8

func TestNewMemory(t *testing.T) {
	_, f := planted(t, small, 1, 2)
	k, v := strings.Clone("key"), strings.Clone("value")
	ops := []Op{put(1, k, v), put(2, k, v)}
	was := slices.Clone(ops)
	do(t, f, 7, api.OK, ops...)
	do(t, f, 0, api.OK, put(1, "other", v))
	if !slices.Equal(ops, was) {
		t.Fatalf("what was handed in is %v", ops)
	}
	clear(ops)
	for s := range f.owner {
		if unsafe.StringData(s.key) == unsafe.StringData(k) {
			t.Errorf("a key that was handed in is kept")
		}
	}
	for _, l := range f.open {
		for _, s := range l {
			if unsafe.StringData(s.key) == unsafe.StringData(k) {
				t.Errorf("a key that was handed in is kept")
			}
		}
	}
	e, _ := f.Get(1, k)
	again, _ := f.Get(1, k)
	if unsafe.StringData(e.Key) == unsafe.StringData(k) || unsafe.StringData(e.NewVal) == unsafe.StringData(again.NewVal) {
		t.Errorf("Get's answer is no new memory")
	}
	l, _ := f.Scan(1, all, -1)
	l2, _ := f.Scan(1, all, -1)
	if &l[0] == &l2[0] || unsafe.StringData(l[0].NewVal) == unsafe.StringData(l2[0].NewVal) {
		t.Errorf("Scan's answer is no new memory")
	}
	clear(l)
	trees, txns := f.Trees(), f.Txns()
	trees[0], txns[0] = 77, 77
	_, _ = append(trees[:1], 99), append(txns[:0], 99)
	if !slices.Equal(f.Trees(), []int{1, 2}) || !slices.Equal(f.Txns(), []uint64{7}) {
		t.Errorf("%v %v", f.Trees(), f.Txns())
	}
	if !slices.Equal(l2, []api.Entry{{Key: "key", Txn: 7, New: true, NewVal: "value"}, held("other", "value")}) {
		t.Errorf("%v", l2)
	}
	span := api.Span{Lo: strings.Clone("a"), Hi: strings.Clone("z")}
	if c, errno := f.Cursor(1, span, 7); errno != api.OK || c == nil {
		t.Errorf("Cursor: %v", errno)
	}
}

// The power, and no forest

func TestNil(t *testing.T) {
	if !isDown(nil, api.ErrState) {
		t.Fatalf("a nil forest")
	}
}

func TestDown(t *testing.T) {
	calls := map[string]func(f *Forest) api.Errno{
		"Do":         func(f *Forest) api.Errno { return f.Do(0, []Op{put(1, "q", "")}) },
		"Do in one":  func(f *Forest) api.Errno { return f.Do(7, []Op{put(1, "q", "")}) },
		"Commit":     func(f *Forest) api.Errno { return f.Commit(7) },
		"Abort":      func(f *Forest) api.Errno { return f.Abort(7) },
		"Evict":      func(f *Forest) api.Errno { return f.Evict() },
		"Checkpoint": func(f *Forest) api.Errno { return untilDone(f) },
		"Get":        func(f *Forest) api.Errno { _, errno := f.Get(1, "r"); return errno },
		"Scan":       func(f *Forest) api.Errno { _, errno := f.Scan(1, all, -1); return errno },
		"Cursor":     func(f *Forest) api.Errno { _, errno := f.Cursor(1, api.Span{Lo: "r", Open: true}, 0); return errno },
		"Flush":      func(f *Forest) api.Errno { return flushAll(f, 1) },
	}
	for name, call := range calls {
		c := small
		c.Cache = 1
		d, f := planted(t, c, 1)
		for i := range 18 {
			do(t, f, 0, api.OK, put(1, string(rune('a'+i)), "x"))
			if i == 9 {
				checkpoint(t, f)
			}
		}
		do(t, f, 7, api.OK, put(1, "a", "y"))
		d.Fuse(0)
		if errno := call(f); errno != api.ErrDown || !d.Down() {
			t.Fatalf("%s: %v (%v)", name, errno, d.Down())
		}
		if !isDown(f, api.ErrDown) {
			t.Fatalf("not down behind %s", name)
		}
		// Power alone is not enough.
		d.Crash(nil)
		if !isDown(f, api.ErrDown) {
			t.Fatalf("not down behind %s and a crash", name)
		}
		if f := mounted(t, d, c); len(f.Trees()) != 1 || isDown(f, api.ErrDown) {
			t.Fatalf("down behind a mount")
		}
	}
}

// untilDone takes steps of a checkpoint till it is done or hindered.
func untilDone(f *Forest) api.Errno {
	for {
		if done, errno := f.Checkpoint(); done || errno != api.OK {
			return errno
		}
	}
}

// flushAll flushes a tree till nothing waits in it.
func flushAll(f *Forest, tree int) api.Errno {
	for {
		if waited, errno := f.Flush(tree); !waited || errno != api.OK {
			return errno
		}
	}
}

func TestDownByWhoElse(t *testing.T) {
	d, f := prepared(t, small)
	d.Fuse(0)
	d.Write(0, nil)
	if !isDown(f, api.ErrDown) {
		t.Fatalf("not down though the power is gone")
	}
	d, f = prepared(t, api.Setup{Sectors: 256, Log: 32, Shape: small.Shape, Cache: 1, Rows: 2})
	for i := range 8 {
		do(t, f, 0, api.OK, put(2, string(rune('a'+i)), "x"))
	}
	c, _ := f.Cursor(2, all, 0)
	f.Get(1, "a")
	// A cursor's way through the nodes may be what lets the power go.
	f.store.Put(f.store.New(), must(t, f, 1))
	d.Fuse(0)
	for _, ok := c.Next(); ok; _, ok = c.Next() {
	}
	if !d.Down() {
		t.Fatalf("the cursor wrote nothing")
	}
	d.Crash(nil)
	if !isDown(f, api.ErrDown) {
		t.Fatalf("not down behind a cursor's way")
	}
}

// must answers the root of a tree.
func must(t *testing.T, f *Forest, tree int) api.Node {
	t.Helper()
	n, ok := f.store.Get(f.roots[tree])
	if !ok {
		t.Fatalf("no root")
	}
	return n
}

func TestBlocksOfNodes(t *testing.T) {
	// The longest nodes that there may be fit into a block.
	c := api.Setup{Sectors: 4096, Log: 1024, Shape: api.Shape{Leaf: 24, Fan: 16, Buf: 32}, Cache: 1, Rows: 1}
	_, f := planted(t, c, 1)
	p := newPlain(c.Log)
	p.do(0, []Op{mk(1)})
	for i := range 25 {
		k := strings.Repeat("k", 255) + string(rune('a'+i))
		ops := []Op{put(1, k, strings.Repeat("v", 512))}
		do(t, f, 0, api.OK, ops...)
		p.do(0, ops)
		if i%12 == 11 {
			agrees(t, f, p)
		}
		if i == 23 {
			checkpoint(t, f)
			p.used = c.Log - f.Room()
		}
	}
	audit(t, f)
	most := 0
	for _, at := range f.needed {
		most = max(most, at.count)
	}
	if most != block.Count(3+24*(2+256+1+2+512+8+1+2)) {
		t.Fatalf("the longest block has %d sectors", most)
	}
}
