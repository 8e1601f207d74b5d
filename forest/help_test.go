package forest

import (
	"maps"
	"math/rand"
	"slices"
	"strconv"
	"strings"
	"testing"

	"granary/api"
	"granary/disk"
	"granary/msg"
	"granary/wal"
)

// small is the setup of the chapter's examples.
var small = api.Setup{Sectors: 256, Log: 32, Shape: api.Shape{Leaf: 2, Fan: 2, Buf: 2}, Cache: 2, Rows: 2}

// wide is one with room for everything.
var wide = api.Setup{Sectors: 4096, Log: 1024, Shape: api.Shape{Leaf: 4, Fan: 3, Buf: 8}, Cache: 8, Rows: 2}

// all is the span of all keys.
var all = api.Span{Open: true}

func put(tree int, key, val string) Op {
	return Op{Kind: OpMsg, Tree: tree, Msg: api.Msg{Kind: api.MsgPut, Key: key, Val: val}}
}

func del(tree int, key string) Op {
	return Op{Kind: OpMsg, Tree: tree, Msg: api.Msg{Kind: api.MsgDel, Key: key}}
}

func add(tree int, key string, off int, num uint64) Op {
	return Op{Kind: OpMsg, Tree: tree, Msg: api.Msg{Kind: api.MsgAdd, Key: key, Off: off, Num: num}}
}

func grow(tree, off int, val string) Op {
	return Op{Kind: OpMsg, Tree: tree, Msg: api.Msg{Kind: api.MsgGrow, Off: off, Val: val}}
}

func mk(tree int) Op { return Op{Kind: OpMake, Tree: tree} }

func drop(tree int) Op { return Op{Kind: OpDrop, Tree: tree} }

// held is the entry of a key with a committed value alone.
func held(key, val string) api.Entry { return api.Entry{Key: key, Has: true, Val: val} }

func newDisk(t *testing.T, c api.Setup) *disk.Disk {
	t.Helper()
	d, errno := disk.New(c.Sectors)
	if errno != api.OK {
		t.Fatalf("no disk of %d sectors: %v", c.Sectors, errno)
	}
	return d
}

func formatted(t *testing.T, c api.Setup) *disk.Disk {
	t.Helper()
	d := newDisk(t, c)
	if errno := Format(d, c); errno != api.OK {
		t.Fatalf("Format: %v", errno)
	}
	return d
}

func mounted(t *testing.T, d *disk.Disk, c api.Setup) *Forest {
	t.Helper()
	f, errno := Mount(d, c)
	if errno != api.OK || f == nil {
		t.Fatalf("Mount: %v %v", f, errno)
	}
	return f
}

// planted answers a new forest that has these trees.
func planted(t *testing.T, c api.Setup, trees ...int) (*disk.Disk, *Forest) {
	t.Helper()
	d := formatted(t, c)
	f := mounted(t, d, c)
	for _, tree := range trees {
		do(t, f, 0, api.OK, mk(tree))
	}
	return d, f
}

func do(t *testing.T, f *Forest, txn uint64, want api.Errno, ops ...Op) {
	t.Helper()
	if errno := f.Do(txn, ops); errno != want {
		t.Fatalf("Do(%d): %v, not %v", txn, errno, want)
	}
}

// checkpoint takes steps till the checkpoint is done.
func checkpoint(t *testing.T, f *Forest) {
	t.Helper()
	for range 5000 {
		done, errno := f.Checkpoint()
		if errno != api.OK {
			t.Fatalf("Checkpoint: %v", errno)
		}
		if done {
			return
		}
	}
	t.Fatalf("no end of a checkpoint")
}

// holds fails unless a tree holds just these entries.
func holds(t *testing.T, f *Forest, tree int, want ...api.Entry) {
	t.Helper()
	l, errno := f.Scan(tree, all, -1)
	if errno != api.OK || !slices.Equal(l, want) {
		t.Fatalf("the tree %d holds %v (%v), not %v", tree, l, errno, want)
	}
}

// state is what trees hold.
type state map[int]map[string]api.Entry

// stateOf answers what the trees of a forest hold.
func stateOf(t *testing.T, f *Forest) state {
	t.Helper()
	s := state{}
	for _, tree := range f.Trees() {
		l, errno := f.Scan(tree, all, -1)
		if errno != api.OK {
			t.Fatalf("Scan of %d: %v", tree, errno)
		}
		s[tree] = map[string]api.Entry{}
		for _, e := range l {
			s[tree][e.Key] = e
		}
	}
	return s
}

func same(a, b state) bool {
	return maps.EqualFunc(a, b, func(x, y map[string]api.Entry) bool { return maps.Equal(x, y) })
}

// text answers a state for people.
func (s state) text() string {
	var b strings.Builder
	for _, tree := range slices.Sorted(maps.Keys(s)) {
		b.WriteString(strconv.Itoa(tree) + ":")
		for _, key := range slices.Sorted(maps.Keys(s[tree])) {
			e := s[tree][key]
			b.WriteString(" " + strconv.Quote(key))
			if e.Has {
				b.WriteString("=" + strconv.Quote(e.Val))
			}
			if e.Txn != 0 {
				b.WriteString("/" + strconv.FormatUint(e.Txn, 10) + strconv.Quote(e.NewVal))
			}
		}
		b.WriteString("; ")
	}
	return b.String()
}

// plain is a forest as plain maps: no log, no disk, no nodes.
type plain struct {
	log   int // its size
	used  int // its pieces that are logged
	since int // of these, those since the first step of the checkpoint on its way; -1: there is none
	trees state
	open  map[uint64]map[spot]bool
}

func newPlain(log int) *plain {
	return &plain{log: log, since: -1, trees: state{}, open: map[uint64]map[spot]bool{}}
}

func (p *plain) room() int { return p.log - p.used }

func (p *plain) logged(bytes int) {
	p.used += wal.Count(bytes)
	if p.since >= 0 {
		p.since += wal.Count(bytes)
	}
}

// apply lays a message into a tree.
func (p *plain) apply(tree int, m api.Msg) {
	keys := []string{m.Key}
	if m.Kind == api.MsgGrow {
		keys = slices.Collect(maps.Keys(p.trees[tree]))
	}
	for _, key := range keys {
		e := p.trees[tree][key]
		e.Key = key
		e = msg.Apply(e, m)
		if msg.Gone(e) {
			delete(p.trees[tree], key)
		} else {
			p.trees[tree][key] = e
		}
	}
}

// busy tells whether another transaction has touched something.
func (p *plain) busy(txn uint64, is func(s spot) bool) bool {
	for other, spots := range p.open {
		for s := range spots {
			if other != txn && is(s) {
				return true
			}
		}
	}
	return false
}

// judge answers the error of an operation; there tells which trees are there.
func (p *plain) judge(txn uint64, op Op, there map[int]bool) api.Errno {
	isMsg := op.Kind == OpMsg
	m := op.Msg
	m.Seq, m.Txn = 0, 0
	switch {
	case op.Kind < 1 || op.Kind > 3, op.Tree < 1, op.Tree > 65535:
		return api.ErrArg
	case isMsg && (m.Kind < 1 || m.Kind > 4 || msg.Check(m) == api.ErrArg):
		return api.ErrArg
	case txn != 0 && (!isMsg || m.Kind == api.MsgGrow):
		return api.ErrArg
	case isMsg && msg.Check(m) == api.ErrBound:
		return api.ErrBound
	case op.Kind == OpMake && there[op.Tree]:
		return api.ErrTwice
	case op.Kind != OpMake && !there[op.Tree]:
		return api.ErrNone
	case isMsg && m.Kind != api.MsgGrow && p.busy(txn, func(s spot) bool { return s == spot{op.Tree, m.Key} }):
		return api.ErrBusy
	case op.Kind == OpDrop && p.busy(txn, func(s spot) bool { return s.tree == op.Tree }):
		return api.ErrBusy
	}
	there[op.Tree] = op.Kind != OpDrop
	return api.OK
}

// mayDo answers the error of a Do, and how many bytes its record has.
func (p *plain) mayDo(txn uint64, ops []Op) (int, api.Errno) {
	there := map[int]bool{}
	for tree := range p.trees {
		there[tree] = true
	}
	size := 11
	for _, op := range ops {
		if errno := p.judge(txn, op, there); errno != api.OK {
			return 0, errno
		}
		size += 18
		if op.Kind == OpMsg {
			size += len(op.Msg.Key) + len(op.Msg.Val)
		}
	}
	if len(ops) > 65535 || size > api.MaxBlock {
		return 0, api.ErrBound
	}
	reserve := len(p.open)
	if txn != 0 && p.open[txn] == nil {
		reserve++
	}
	if p.room()-wal.Count(size) < reserve {
		return 0, api.ErrFull
	}
	return size, api.OK
}

// do does what Do does.
func (p *plain) do(txn uint64, ops []Op) api.Errno {
	if len(ops) == 0 {
		return api.OK
	}
	size, errno := p.mayDo(txn, ops)
	if errno != api.OK {
		return errno
	}
	p.logged(size)
	for _, op := range ops {
		switch op.Kind {
		case OpMake:
			p.trees[op.Tree] = map[string]api.Entry{}
		case OpDrop:
			delete(p.trees, op.Tree)
		case OpMsg:
			m := op.Msg
			m.Txn = txn
			p.apply(op.Tree, m)
			if txn != 0 && p.open[txn] == nil {
				p.open[txn] = map[spot]bool{}
			}
			if txn != 0 {
				p.open[txn][spot{op.Tree, m.Key}] = true
			}
		}
	}
	return api.OK
}

// end does what Commit and Abort do.
func (p *plain) end(txn uint64, kind int) api.Errno {
	if p.open[txn] == nil {
		return api.ErrNone
	}
	p.logged(9)
	p.close(txn, kind)
	return api.OK
}

func (p *plain) close(txn uint64, kind int) {
	for s := range p.open[txn] {
		p.apply(s.tree, api.Msg{Kind: kind, Key: s.key, Txn: txn})
	}
	delete(p.open, txn)
}

// copied answers one that goes on by itself.
func (p *plain) copied() *plain {
	q := *p
	q.trees, q.open = state{}, map[uint64]map[spot]bool{}
	for tree, l := range p.trees {
		q.trees[tree] = maps.Clone(l)
	}
	for txn, spots := range p.open {
		q.open[txn] = maps.Clone(spots)
	}
	return &q
}

// kept answers what is kept: as if all open transactions were aborted.
func (p *plain) kept() *plain {
	q := p.copied()
	for _, txn := range slices.Sorted(maps.Keys(q.open)) {
		q.close(txn, api.MsgAbort)
	}
	q.since = -1
	return q
}

// agrees fails unless a forest tells the same as the plain one.
func agrees(t *testing.T, f *Forest, p *plain) {
	t.Helper()
	if s := stateOf(t, f); !same(s, p.trees) {
		t.Fatalf("the forest holds %s\nnot %s", s.text(), p.trees.text())
	}
	if l := f.Txns(); !slices.Equal(l, slices.Sorted(maps.Keys(p.open))) {
		t.Fatalf("Txns: %v, not %v", l, p.open)
	}
	if room := f.Room(); room != p.room() {
		t.Fatalf("Room: %d, not %d", room, p.room())
	}
}

// chance answers random numbers that are the same in each run.
func chance(seed int) *rand.Rand { return rand.New(rand.NewSource(int64(seed))) }
