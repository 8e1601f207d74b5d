package cursor

import (
	"fmt"
	"maps"
	"math/rand"
	"slices"
	"strings"
	"testing"

	"granary/api"
	"granary/msg"
	"granary/tree"
)

// shapes are small and great ones, and such in which much waits.
var shapes = []api.Shape{
	{Leaf: 2, Fan: 2, Buf: 1}, {Leaf: 2, Fan: 2, Buf: 2}, {Leaf: 2, Fan: 2, Buf: 128}, {Leaf: 2, Fan: 16, Buf: 1},
	{Leaf: 3, Fan: 3, Buf: 9}, {Leaf: 5, Fan: 4, Buf: 20}, {Leaf: 64, Fan: 2, Buf: 1}, {Leaf: 64, Fan: 16, Buf: 128},
}

// all is the span of all keys.
var all = api.Span{Open: true}

// model holds what a tree should.
type model map[string]api.Entry

// inject makes of all entries what a message makes of them.
func (x model) inject(m api.Msg) {
	if m.Kind != api.MsgGrow {
		e := x[m.Key]
		e.Key = m.Key
		x[m.Key] = msg.Apply(e, m)
		return
	}
	for _, key := range slices.Sorted(maps.Keys(x)) {
		x[key] = msg.Apply(x[key], m)
	}
}

// pairs answers those that a cursor should have.
func (x model) pairs(span api.Span, txn uint64) []api.Pair {
	var l []api.Pair
	for _, key := range slices.Sorted(maps.Keys(x)) {
		val, ok := msg.View(x[key], txn)
		if ok && key >= span.Lo && (span.Open || key < span.Hi) {
			l = append(l, api.Pair{Key: key, Val: val})
		}
	}
	return l
}

// plain is a cursor over a list of pairs, of which at stand ahead of it.
type plain struct {
	pairs []api.Pair
	at    int
}

func (p *plain) Next() (api.Pair, bool) {
	if p.at == len(p.pairs) {
		return api.Pair{}, false
	}
	p.at++
	return p.pairs[p.at-1], true
}

func (p *plain) Prev() (api.Pair, bool) {
	if p.at == 0 {
		return api.Pair{}, false
	}
	p.at--
	return p.pairs[p.at], true
}

func (p *plain) Seek(key string) {
	p.at = 0
	for p.at < len(p.pairs) && p.pairs[p.at].Key < key {
		p.at++
	}
}

func (p *plain) End() { p.at = len(p.pairs) }

// grown is a tree, and what it should hold.
type grown struct {
	*tree.Mem
	shape api.Shape
	root  uint64
	seq   uint64
	held  model
}

func newGrown(t *testing.T, sh api.Shape) *grown {
	t.Helper()
	g := &grown{Mem: tree.NewMem(), shape: sh, held: model{}}
	root, errno := tree.Make(g.Mem, sh)
	if errno != api.OK {
		t.Fatalf("Make: %d", errno)
	}
	g.root = root
	return g
}

// inject injects messages, whose Seqs it gives them.
func (g *grown) inject(t *testing.T, l ...api.Msg) {
	t.Helper()
	for _, m := range l {
		g.seq++
		m.Seq = g.seq
		root, errno := tree.Inject(g.Mem, g.shape, g.root, m)
		if errno != api.OK {
			t.Fatalf("Inject of %v: %d", m, errno)
		}
		g.root = root
		g.held.inject(m)
	}
}

// flush lets messages come down, most times at most; all, if most is below 0.
func (g *grown) flush(most int) {
	for waited := true; waited && most != 0; most-- {
		g.root, waited, _ = tree.Flush(g.Mem, g.shape, g.root)
	}
}

// still is a store whose nodes are never to be changed; what it answers is its own memory, with spare room that isn't to be changed either.
type still struct {
	t     *testing.T
	nodes map[uint64]api.Node
	gets  int
}

func (s *still) Get(id uint64) (api.Node, bool) {
	s.gets++
	n, ok := s.nodes[id]
	return n, ok
}

func (s *still) Put(id uint64, n api.Node) { s.t.Errorf("Put(%d)", id) }

func (s *still) New() uint64 {
	s.t.Errorf("New")
	return 0
}

func (s *still) Drop(id uint64) { s.t.Errorf("Drop(%d)", id) }

// roomy answers the list in memory of its own, with spare room in which something stands.
func roomy[T any](l []T, spare T) []T {
	return append(append(make([]T, 0, len(l)+2), l...), spare, spare)[:len(l)]
}

// freeze answers a still store with the nodes that can be reached from a root.
func freeze(t *testing.T, from tree.Store, root uint64) *still {
	s := &still{t: t, nodes: map[uint64]api.Node{}}
	var copy func(id uint64)
	copy = func(id uint64) {
		n, ok := from.Get(id)
		if !ok {
			return
		}
		for at, buf := range n.Bufs {
			n.Bufs[at] = roomy(buf, api.Msg{Seq: 1, Kind: api.MsgPut, Key: "spare"})
		}
		s.nodes[id] = api.Node{
			Leaf:    n.Leaf,
			Entries: roomy(n.Entries, has("spare", "")),
			Pivots:  roomy(n.Pivots, "spare"),
			Kids:    roomy(n.Kids, 99),
			Bufs:    roomy(n.Bufs, []api.Msg{{Key: "spare"}}),
		}
		for _, kid := range n.Kids {
			copy(kid)
		}
	}
	copy(root)
	return s
}

// tell answers all nodes as a text, their spare room with them.
func (s *still) tell() string {
	l := ""
	for _, id := range slices.Sorted(maps.Keys(s.nodes)) {
		n := s.nodes[id]
		l += fmt.Sprintf("%d: %v %v %q %v", id, n.Leaf, n.Entries[:cap(n.Entries)], n.Pivots[:cap(n.Pivots)], n.Kids[:cap(n.Kids)])
		for _, buf := range n.Bufs[:cap(n.Bufs)] {
			l += fmt.Sprintf(" %v", buf[:cap(buf)])
		}
		l += "\n"
	}
	return l
}

// leaves answers how many leaves there are.
func (s *still) leaves() int {
	count := 0
	for _, n := range s.nodes {
		if n.Leaf {
			count++
		}
	}
	return count
}

// height answers how many nodes stand from a leaf up to this one.
func height(s tree.Store, id uint64) int {
	n, _ := s.Get(id)
	if n.Leaf {
		return 1
	}
	return 1 + height(s, n.Kids[0])
}

// opens answers a cursor.
func opens(t *testing.T, s tree.Store, root uint64, span api.Span, txn uint64) *Cursor {
	t.Helper()
	c, errno := Open(s, root, span, txn)
	if c == nil || errno != api.OK {
		t.Fatalf("Open of %v for %d: %v, %d", span, txn, c, errno)
	}
	return c
}

// nexts asks what Next answers, the keys of pairs with a blank between, "-" where there is none; prevs likewise.
func nexts(t *testing.T, c *Cursor, want string) {
	t.Helper()
	asks(t, "Next", c.Next, want)
}

func prevs(t *testing.T, c *Cursor, want string) {
	t.Helper()
	asks(t, "Prev", c.Prev, want)
}

func asks(t *testing.T, name string, step func() (api.Pair, bool), want string) {
	t.Helper()
	var got []string
	for range strings.Fields(want) {
		p, ok := step()
		switch {
		case ok:
			got = append(got, p.Key)
		case p != api.Pair{}:
			t.Fatalf("%s: %v beside false", name, p)
		default:
			got = append(got, "-")
		}
	}
	if strings.Join(got, " ") != want {
		t.Fatalf("%s: %q, want %q", name, got, want)
	}
}

// gathers answers all that a step answers till there is nothing more.
func gathers(step func() (api.Pair, bool)) []api.Pair {
	var l []api.Pair
	for p, ok := step(); ok; p, ok = step() {
		l = append(l, p)
	}
	return l
}

// wander lets a cursor and a plain one go the same way by chance, and asks whether they answer the same.
func wander(t *testing.T, r *rand.Rand, c *Cursor, p *plain, keys []string, steps int) {
	t.Helper()
	var way []string
	for range steps {
		var a, b api.Pair
		var okA, okB bool
		switch n := r.Intn(20); {
		case n < 8:
			way = append(way, "Next")
			a, okA = c.Next()
			b, okB = p.Next()
		case n < 16:
			way = append(way, "Prev")
			a, okA = c.Prev()
			b, okB = p.Prev()
		case n < 19:
			key := keys[r.Intn(len(keys))]
			way = append(way, fmt.Sprintf("Seek(%.20q)", key))
			c.Seek(key)
			p.Seek(key)
		default:
			way = append(way, "End")
			c.End()
			p.End()
		}
		if a != b || okA != okB {
			t.Fatalf("%v: %.80v, %v, want %.80v, %v", way, a, okA, b, okB)
		}
	}
}

// has answers the entry with a value committed.
func has(key, val string) api.Entry { return api.Entry{Key: key, Has: true, Val: val} }

func put(key, val string, txn uint64) api.Msg {
	return api.Msg{Kind: api.MsgPut, Key: key, Val: val, Txn: txn}
}

func del(key string, txn uint64) api.Msg { return api.Msg{Kind: api.MsgDel, Key: key, Txn: txn} }

func grow(off int, val string) api.Msg { return api.Msg{Kind: api.MsgGrow, Off: off, Val: val} }

// name answers the key number n; they rise.
func name(n int) string { return fmt.Sprintf("k%05d", n) }

// chance answers a message by chance, out of all kinds and two transactions; its value begins with a small byte.
func chance(r *rand.Rand, key string) api.Msg {
	m := put(key, "", uint64(max(0, r.Intn(5)-2)))
	switch n := r.Intn(24); {
	case n < 11:
		m.Val = string([]byte{byte(r.Intn(3))}) + strings.Repeat("v", r.Intn(12))
	case n < 16:
		m.Kind = api.MsgDel
	case n < 18:
		m.Kind, m.Off, m.Num = api.MsgAdd, r.Intn(5), r.Uint64()
	case n < 19:
		return grow(r.Intn(3), fmt.Sprint(r.Intn(10)))
	case n < 22:
		m.Kind, m.Txn = api.MsgCommit, 1+uint64(r.Intn(2))
	default:
		m.Kind, m.Txn = api.MsgAbort, 1+uint64(r.Intn(2))
	}
	return m
}

// inner answers the inner node with these kids and pivots, for which nothing waits.
func inner(kids []uint64, pivots ...string) api.Node {
	return api.Node{Kids: kids, Pivots: pivots, Bufs: make([][]api.Msg, len(kids))}
}

// waits answers the inner node in which these messages, with Seqs from one on, wait for a kid too.
func waits(n api.Node, kid int, seq uint64, l ...api.Msg) api.Node {
	for at, m := range l {
		m.Seq = seq + uint64(at)
		n.Bufs[kid] = append(n.Bufs[kid], m)
	}
	return n
}

// leafOf answers the leaf with entries of these keys, whose values are the keys.
func leafOf(keys ...string) api.Node {
	n := api.Node{Leaf: true}
	for _, key := range keys {
		n.Entries = append(n.Entries, has(key, key))
	}
	return n
}
