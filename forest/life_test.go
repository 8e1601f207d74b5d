package forest

import (
	"maps"
	"math/rand"
	"slices"
	"strconv"
	"testing"

	"granary/api"
	"granary/block"
	"granary/disk"
	"granary/extent"
	"granary/key"
	"granary/msg"
	"granary/tree"
)

// life is a forest that is used at random beside a plain one, over crashes.
type life struct {
	t     *testing.T
	r     *rand.Rand
	c     api.Setup
	d     *disk.Disk
	f     *Forest
	p     *plain
	steps int // of the checkpoint on its way
	bound int // how many it may take
	seen  map[string]int
	vals  int // bytes of a value at most
}

func newLife(t *testing.T, c api.Setup, seed, vals int) *life {
	l := &life{t: t, r: chance(seed), c: c, d: formatted(t, c), p: newPlain(c.Log), seen: map[string]int{}, vals: vals}
	l.f = mounted(t, l.d, c)
	return l
}

func (l *life) note(what string, errno api.Errno) {
	l.seen[what+" "+strconv.Itoa(int(errno))]++
}

// key answers one of few.
func (l *life) key() string { return strconv.Itoa(l.r.Intn(12)) }

func (l *life) val() string {
	b := make([]byte, l.r.Intn(l.vals+1))
	for i := range b {
		b[i] = byte('0' + l.r.Intn(3))
	}
	return string(b)
}

func (l *life) tree() int { return 1 + l.r.Intn(3) }

func (l *life) txn() uint64 { return uint64(l.r.Intn(4)) }

// op answers an operation, a right one as a rule.
func (l *life) op(txn uint64) Op {
	tree := l.tree()
	n := l.r.Intn(80)
	switch {
	case txn == 0 && l.p.trees[tree] == nil && n%2 == 0, n == 0:
		return mk(tree)
	case txn == 0 && n == 1:
		return drop(tree)
	case txn == 0 && n < 8:
		return grow(tree, '0'+l.r.Intn(3), "x")
	case n < 20:
		return del(tree, l.key())
	case n < 34:
		return add(tree, l.key(), l.r.Intn(3), l.r.Uint64())
	case n == 34:
		return Op{Kind: l.r.Intn(5), Tree: l.r.Intn(5), Msg: api.Msg{Kind: l.r.Intn(7), Key: l.key()}}
	}
	return put(tree, l.key(), l.val())
}

func (l *life) ops(txn uint64) []Op {
	var ops []Op
	for range l.r.Intn(5) {
		ops = append(ops, l.op(txn))
	}
	return ops
}

// want fails unless an answer is as it must be; it is false if the power is gone.
func (l *life) want(what string, errno, want api.Errno) bool {
	l.t.Helper()
	l.note(what, errno)
	if errno == api.ErrDown && l.d.Down() {
		return false
	}
	if errno != want {
		l.t.Fatalf("%s: %v, not %v", what, errno, want)
	}
	return true
}

// step makes a call, and goes over a crash if the power goes.
func (l *life) step() {
	l.t.Helper()
	before := l.p.kept()
	if l.call() {
		if l.r.Intn(60) == 0 {
			l.note("crash by hand", 0)
			l.crash(l.p.kept())
		}
		return
	}
	l.isDown()
	l.crash(before, l.p.kept())
}

// call makes a call of any kind; false: the power has gone.
func (l *life) call() bool {
	l.t.Helper()
	switch n := l.r.Intn(20); {
	case n < 8:
		txn := l.txn()
		ops := l.ops(txn)
		q := l.p
		l.p = l.p.copied()
		want := l.p.do(txn, ops)
		if !l.want("do", l.f.Do(txn, ops), want) {
			// What isn't kept plays no part.
			return false
		}
		if want != api.OK {
			l.p = q
		}
	case n < 10:
		txn := l.txn()
		kind, end := api.MsgCommit, l.f.Commit
		if l.r.Intn(3) == 0 {
			kind, end = api.MsgAbort, l.f.Abort
		}
		want := l.p.end(txn, kind)
		return l.want("end", end(txn), want)
	case n < 12:
		tree := l.tree()
		_, errno := l.f.Flush(tree)
		return l.want("flush", errno, l.ifThere(tree))
	case n < 13:
		return l.evict()
	case n < 17:
		return l.checkpoint()
	case n < 18:
		l.d.Fuse(l.r.Intn(30))
	default:
		return l.look()
	}
	return true
}

func (l *life) ifThere(tree int) api.Errno {
	if l.p.trees[tree] == nil {
		return api.ErrNone
	}
	return api.OK
}

func (l *life) evict() bool {
	l.t.Helper()
	hole, there := l.f.Hole(), l.f.store.pool.Len()
	errno := l.f.Evict()
	want := api.OK
	switch {
	case there == 0:
		want = api.ErrNone
	case errno == api.ErrFull && hole < 700:
		want = api.ErrFull
	}
	return l.want("evict", errno, want)
}

func (l *life) checkpoint() bool {
	l.t.Helper()
	for range 1 + l.r.Intn(12) {
		hole, writes := l.f.Hole(), l.d.Writes()
		first := l.f.store.draft == nil
		if first {
			l.steps, l.bound = 0, len(l.f.store.nodes)+10
		}
		l.steps++
		done, errno := l.f.Checkpoint()
		want := api.OK
		if errno == api.ErrFull && hole < 700 {
			want = api.ErrFull
			l.p.since = -1
		}
		if done {
			// It may have been done, though the power went.
			l.p.used, l.p.since = l.p.since, -1
		}
		if !l.want("checkpoint", errno, want) {
			return false
		}
		if errno != api.OK {
			return true
		}
		if first {
			l.p.since = 0
		}
		if n := l.d.Writes() - writes; n > block.Count(api.MaxBlock) || (first || done) && n > 1 {
			l.t.Fatalf("%d writes in the step %d (%v)", n, l.steps, done)
		}
		if l.steps > l.bound {
			l.t.Fatalf("%d steps, though there were %d nodes", l.steps, l.bound-10)
		}
		if done {
			l.note("checkpoint done", 0)
			return true
		}
	}
	return true
}

// look reads something.
func (l *life) look() bool {
	l.t.Helper()
	tree, k, txn := l.tree(), l.key(), l.txn()
	span := api.Span{Lo: l.key(), Hi: l.key(), Open: l.r.Intn(2) == 0}
	most := l.r.Intn(6) - 1
	e, errno := l.f.Get(tree, k)
	if !l.want("get", errno, l.ifThere(tree)) {
		return false
	}
	if is, ok := l.p.trees[tree][k]; ok && e != is || !ok && errno == api.OK && e != (api.Entry{Key: k}) {
		l.t.Fatalf("Get(%d %q): %v, not %v", tree, k, e, is)
	}
	var entries []api.Entry
	var pairs []api.Pair
	for _, k := range slices.Sorted(maps.Keys(l.p.trees[tree])) {
		if e := l.p.trees[tree][k]; key.In(span, k) {
			if most < 0 || len(entries) < most {
				entries = append(entries, e)
			}
			if val, ok := msg.View(e, txn); ok {
				pairs = append(pairs, api.Pair{Key: k, Val: val})
			}
		}
	}
	got, errno := l.f.Scan(tree, span, most)
	if !l.want("scan", errno, l.ifThere(tree)) {
		return false
	}
	if !slices.Equal(got, entries) {
		l.t.Fatalf("Scan(%d %v %d): %v, not %v", tree, span, most, got, entries)
	}
	c, errno := l.f.Cursor(tree, span, txn)
	if !l.want("cursor", errno, l.ifThere(tree)) {
		return false
	}
	var seen []api.Pair
	for p, ok := c.Next(); ok; p, ok = c.Next() {
		seen = append(seen, p)
	}
	if !slices.Equal(seen, pairs) {
		l.t.Fatalf("Cursor(%d %v %d): %v, not %v", tree, span, txn, seen, pairs)
	}
	// The cursor's way may have been the one on which the power went.
	return !l.d.Down()
}

// isDown fails unless a forest whose disk's power has gone answers as it must.
func (l *life) isDown() {
	l.t.Helper()
	if !isDown(l.f, api.ErrDown) {
		l.t.Fatalf("not down")
	}
}

// crash lets the disk keep something, and fails unless one of these is what is mounted then.
func (l *life) crash(may ...*plain) {
	l.t.Helper()
	old := l.f
	for {
		keep := make([]int, l.r.Intn(l.d.Waiting()+1))
		odds := l.r.Intn(4)
		for i := range keep {
			if l.r.Intn(3) < odds {
				keep[i] = 1
			}
		}
		l.d.Crash(keep)
		if l.r.Intn(3) == 0 {
			l.d.Fuse(l.r.Intn(12))
		}
		f, errno := Mount(l.d, l.c)
		l.note("mount", errno)
		if errno == api.ErrDown && f == nil && l.d.Down() {
			continue
		}
		if errno != api.OK || f == nil || l.d.Down() {
			l.t.Fatalf("Mount: %v %v", f, errno)
		}
		l.d.Fuse(-1)
		l.f = f
		break
	}
	if old.store.down && !isDown(old, api.ErrDown) {
		l.t.Fatalf("not down any more")
	}
	s := stateOf(l.t, l.f)
	at := slices.IndexFunc(may, func(p *plain) bool { return same(p.trees, s) })
	if at < 0 {
		l.t.Fatalf("%s is mounted\nnot %s", s.text(), may[0].trees.text()+"\nnor "+may[len(may)-1].trees.text())
	}
	l.p = may[at]
	l.p.used = l.p.log - l.f.Room()
	l.steps = 0
	agrees(l.t, l.f, l.p)
}

// isDown tells whether all calls of a forest answer this error, or nothing.
func isDown(f *Forest, want api.Errno) bool {
	e, errno1 := f.Get(1, "a")
	l, errno2 := f.Scan(1, all, -1)
	c, errno3 := f.Cursor(1, all, 0)
	waited, errno4 := f.Flush(1)
	done, errno5 := f.Checkpoint()
	errnos := []api.Errno{
		errno1, errno2, errno3, errno4, errno5,
		f.Do(0, nil), f.Do(0, []Op{{}}), f.Do(0, []Op{mk(1)}), f.Do(1, []Op{put(1, "a", "b")}), f.Commit(1), f.Abort(1), f.Evict(),
	}
	return !slices.ContainsFunc(errnos, func(errno api.Errno) bool { return errno != want }) &&
		e == api.Entry{} && l == nil && c == nil && !waited && !done &&
		f.Txns() == nil && f.Trees() == nil && f.Room() == 0 && f.Hole() == 0
}

// audit fails unless the forest's books are in order: each sector is taken just if somebody needs it, and the trees are sound.
func audit(t *testing.T, f *Forest) {
	t.Helper()
	holders := map[*place]int{}
	count := func(p *place) {
		if p != nil {
			holders[p]++
		}
	}
	for _, p := range f.store.nodes {
		count(p)
	}
	for _, p := range f.needed {
		count(p)
	}
	if d := f.store.draft; d != nil {
		for _, p := range d.blocks() {
			count(p)
		}
	}
	s, _ := extent.New(2+f.setup.Log, f.setup.Sectors)
	for p, n := range holders {
		if errno := s.Take(p.start, p.count); errno != api.OK || p.holders != n {
			t.Fatalf("%v is held by %d; %v", *p, n, errno)
		}
	}
	if !slices.Equal(s.Holes(), f.store.space.Holes()) {
		t.Fatalf("free are %v, not %v", f.store.space.Holes(), s.Holes())
	}
	for _, id := range f.store.pool.Dirty() {
		if p, ok := f.store.nodes[id]; !ok || p != nil {
			t.Fatalf("the node %d is dirty, and lies at %v", id, p)
		}
	}
	mem := tree.NewMem()
	for id := range f.store.nodes {
		n, ok := f.store.Get(id)
		if !ok {
			t.Fatalf("no node %d", id)
		}
		mem.Put(id, n)
	}
	for number, root := range f.roots {
		if !tree.Sound(mem, f.setup.Shape, root) {
			t.Fatalf("the tree %d isn't sound", number)
		}
		tree.Drop(mem, root)
	}
	if mem.Count() != 0 {
		t.Fatalf("%d nodes are in no tree", mem.Count())
	}
}
