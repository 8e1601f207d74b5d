package tree

import (
	"fmt"
	"maps"
	"math"
	"math/big"
	"math/rand"
	"slices"
	"strings"
	"testing"

	"granary/api"
	"granary/msg"
	"granary/node"
)

// shapes are small and great ones, and such with more kids than messages that may wait.
var shapes = []api.Shape{
	{Leaf: 2, Fan: 2, Buf: 1}, {Leaf: 2, Fan: 2, Buf: 2}, {Leaf: 2, Fan: 2, Buf: 128}, {Leaf: 2, Fan: 16, Buf: 1}, {Leaf: 3, Fan: 2, Buf: 5},
	{Leaf: 3, Fan: 3, Buf: 3}, {Leaf: 4, Fan: 5, Buf: 4}, {Leaf: 5, Fan: 4, Buf: 20}, {Leaf: 64, Fan: 2, Buf: 1}, {Leaf: 64, Fan: 16, Buf: 128},
}

// all is the span of all keys.
var all = api.Span{Open: true}

// spy is a store whose numbers fall, and that watches what a tree asks of it.
type spy struct {
	t     *testing.T
	shape api.Shape
	nodes map[uint64]api.Node
	given map[uint64]struct{} // the numbers that New answered and under which nothing was put yet
	last  uint64
	gets  int
	puts  []uint64
}

func newSpy(t *testing.T, sh api.Shape) *spy {
	return &spy{t: t, shape: sh, nodes: map[uint64]api.Node{}, given: map[uint64]struct{}{}, last: math.MaxUint64}
}

func (s *spy) Get(id uint64) (api.Node, bool) {
	s.gets++
	n, ok := s.nodes[id]
	return twin(n), ok
}

func (s *spy) Put(id uint64, n api.Node) {
	_, there := s.nodes[id]
	_, given := s.given[id]
	if !there && !given {
		s.t.Errorf("Put(%d) of a number that is nobody's", id)
	}
	delete(s.given, id)
	if !node.Right(n) || len(n.Entries) > s.shape.Leaf || len(n.Kids) > s.shape.Fan || node.Waiting(n) > s.shape.Buf {
		s.t.Errorf("Put(%d) of a node that is wrong or too great: %s", id, tell(n))
	}
	s.puts = append(s.puts, id)
	s.nodes[id] = twin(n)
}

func (s *spy) New() uint64 {
	s.last -= 3
	s.given[s.last] = struct{}{}
	return s.last
}

func (s *spy) Drop(id uint64) {
	if _, there := s.nodes[id]; !there {
		s.t.Errorf("Drop(%d), which isn't there", id)
	}
	delete(s.nodes, id)
}

// twin answers the node in memory of its own, without spare room.
func twin(n api.Node) api.Node {
	n.Entries, n.Pivots, n.Kids = slices.Clip(slices.Clone(n.Entries)), slices.Clip(slices.Clone(n.Pivots)), slices.Clip(slices.Clone(n.Kids))
	bufs := make([][]api.Msg, len(n.Bufs))
	for at, buf := range n.Bufs {
		bufs[at] = slices.Clip(slices.Clone(buf))
	}
	n.Bufs = bufs
	return n
}

// tell answers a node as a text.
func tell(n api.Node) string {
	if n.Leaf {
		return fmt.Sprintf("leaf %v", n.Entries)
	}
	return fmt.Sprintf("inner %v %q %v", n.Kids, n.Pivots, n.Bufs)
}

// dump answers the nodes that can be reached from this one as a text, their numbers among them.
func dump(s Store, id uint64) string {
	n, ok := s.Get(id)
	if !ok {
		return fmt.Sprintf("%d isn't there\n", id)
	}
	l := fmt.Sprintf("%d: %s\n", id, tell(n))
	for _, kid := range n.Kids {
		l += dump(s, kid)
	}
	return l
}

// whole answers all nodes of a store as a text.
func whole(nodes map[uint64]api.Node) string {
	l := ""
	for _, id := range slices.Sorted(maps.Keys(nodes)) {
		l += fmt.Sprintf("%d: %s\n", id, tell(nodes[id]))
	}
	return l
}

// nodesOf answers how many nodes can be reached, and how many messages wait in them.
func nodesOf(s Store, id uint64) (nodes, waiting int) {
	n, _ := s.Get(id)
	nodes, waiting = 1, node.Waiting(n)
	for _, kid := range n.Kids {
		a, b := nodesOf(s, kid)
		nodes, waiting = nodes+a, waiting+b
	}
	return nodes, waiting
}

// height answers how many nodes stand from a leaf up to this one.
func height(s Store, id uint64) int {
	n, _ := s.Get(id)
	if n.Leaf {
		return 1
	}
	return 1 + height(s, n.Kids[0])
}

// toGo answers a number that falls whenever messages come down, even if there are 16 for one then; high is the node's height.
func toGo(s Store, id uint64, high int) *big.Int {
	n, _ := s.Get(id)
	sum := big.NewInt(17)
	sum.Exp(sum, big.NewInt(int64(high)), nil)
	sum.Mul(sum, big.NewInt(int64(node.Waiting(n))))
	for _, kid := range n.Kids {
		sum.Add(sum, toGo(s, kid, high-1))
	}
	return sum
}

// above is what waits above a node for it, and the pivots that bound its keys.
type above struct {
	depth    int
	waiting  []api.Msg
	los, his []string
}

// plain tells what Sound should, sentence by sentence.
func plain(s Store, sh api.Shape, root uint64) bool {
	reached, depths, ok := map[uint64]int{}, map[int]int{}, true
	var look func(id uint64, a above)
	look = func(id uint64, a above) {
		n, there := s.Get(id)
		reached[id]++
		if !there || reached[id] > 1 || !node.Right(n) {
			ok = false
			return
		}
		inside := func(key string) {
			for _, lo := range a.los {
				ok = ok && strings.Compare(lo, key) <= 0
			}
			for _, hi := range a.his {
				ok = ok && strings.Compare(key, hi) < 0
			}
		}
		if n.Leaf {
			depths[a.depth]++
			ok = ok && len(n.Entries) <= sh.Leaf
			for _, e := range n.Entries {
				inside(e.Key)
			}
			return
		}
		ok = ok && len(n.Kids) <= sh.Fan && node.Waiting(n) <= sh.Buf
		for _, p := range n.Pivots {
			inside(p)
		}
		for kid, buf := range n.Bufs {
			for _, m := range buf {
				for _, younger := range a.waiting {
					ok = ok && m.Seq <= younger.Seq
				}
			}
			b := above{a.depth + 1, append(slices.Clone(a.waiting), buf...), slices.Clone(a.los), slices.Clone(a.his)}
			if kid > 0 {
				b.los = append(b.los, n.Pivots[kid-1])
			}
			if kid < len(n.Pivots) {
				b.his = append(b.his, n.Pivots[kid])
			}
			look(n.Kids[kid], b)
		}
	}
	look(root, above{})
	return ok && len(depths) == 1
}

// isSound asks Sound, and the plainer test.
func isSound(t *testing.T, s Store, sh api.Shape, root uint64, want bool) {
	t.Helper()
	if got := plain(s, sh, root); got != want {
		t.Fatalf("plain: %v\n%s", got, dump(s, root))
	}
	if got := Sound(s, sh, root); got != want {
		t.Fatalf("Sound: %v\n%s", got, dump(s, root))
	}
}

// model holds what a tree should.
type model map[string]api.Entry

// inject makes of all entries what a message makes of them.
func (x model) inject(m api.Msg) {
	if m.Kind == api.MsgGrow {
		for key := range x {
			x.set(msg.Apply(x[key], m))
		}
		return
	}
	e, there := x[m.Key]
	if !there {
		e = api.Entry{Key: m.Key}
	}
	x.set(msg.Apply(e, m))
}

func (x model) set(e api.Entry) {
	if msg.Gone(e) {
		delete(x, e.Key)
		return
	}
	x[e.Key] = e
}

// scan answers what Scan should.
func (x model) scan(span api.Span, most int) []api.Entry {
	var l []api.Entry
	for _, key := range slices.Sorted(maps.Keys(x)) {
		if strings.Compare(span.Lo, key) <= 0 && (span.Open || strings.Compare(key, span.Hi) < 0) && (most < 0 || len(l) < most) {
			l = append(l, x[key])
		}
	}
	return l
}

// get answers what Get should.
func (x model) get(key string) api.Entry {
	if e, there := x[key]; there {
		return e
	}
	return api.Entry{Key: key}
}

// makes answers the root of a new tree.
func makes(t *testing.T, s Store, sh api.Shape) uint64 {
	t.Helper()
	root, errno := Make(s, sh)
	if errno != api.OK {
		t.Fatalf("Make of %v: %d", sh, errno)
	}
	return root
}

// injects answers the root behind messages.
func injects(t *testing.T, s Store, sh api.Shape, root uint64, l ...api.Msg) uint64 {
	t.Helper()
	for _, m := range l {
		next, errno := Inject(s, sh, root, m)
		if errno != api.OK {
			t.Fatalf("Inject of %v: %d", m, errno)
		}
		root = next
	}
	return root
}

// flushes answers the root behind a Flush, of which it asks whether messages waited.
func flushes(t *testing.T, s Store, sh api.Shape, root uint64, want bool) uint64 {
	t.Helper()
	next, waited, errno := Flush(s, sh, root)
	if waited != want || errno != api.OK {
		t.Fatalf("Flush: %v, %d\n%s", waited, errno, dump(s, root))
	}
	return next
}

// calm answers the root behind as many calls of Flush as are needed till nothing waits.
func calm(t *testing.T, s Store, sh api.Shape, root uint64) uint64 {
	t.Helper()
	for _, waiting := nodesOf(s, root); waiting > 0; _, waiting = nodesOf(s, root) {
		root = flushes(t, s, sh, root, true)
	}
	return flushes(t, s, sh, root, false)
}

// gets asks what Get answers.
func gets(t *testing.T, s Store, root uint64, want api.Entry) {
	t.Helper()
	if e, errno := Get(s, root, want.Key); e != want || errno != api.OK {
		t.Fatalf("Get(%.40q): %.200v, %d, want %.200v\n%s", want.Key, e, errno, want, dump(s, root))
	}
}

// scans asks what Scan answers.
func scans(t *testing.T, s Store, root uint64, span api.Span, most int, want []api.Entry) {
	t.Helper()
	if l, errno := Scan(s, root, span, most); !slices.Equal(l, want) || errno != api.OK {
		t.Fatalf("Scan(%v, %d): %v, %d, want %v\n%s", span, most, l, errno, want, dump(s, root))
	}
}

// holds asks a tree for all that it holds, and whether it is sound.
func holds(t *testing.T, s Store, sh api.Shape, root uint64, x model) {
	t.Helper()
	isSound(t, s, sh, root, true)
	scans(t, s, root, all, -1, x.scan(all, -1))
}

// has answers the entry with a value committed.
func has(key, val string) api.Entry { return api.Entry{Key: key, Has: true, Val: val} }

func put(seq uint64, key, val string) api.Msg {
	return api.Msg{Seq: seq, Kind: api.MsgPut, Key: key, Val: val}
}

func del(seq uint64, key string) api.Msg { return api.Msg{Seq: seq, Kind: api.MsgDel, Key: key} }

func grow(seq uint64, off int, val string) api.Msg {
	return api.Msg{Seq: seq, Kind: api.MsgGrow, Off: off, Val: val}
}

// chance answers a message by chance, out of all kinds and few transactions; its value begins with a small byte.
func chance(r *rand.Rand, seq uint64, key string) api.Msg {
	m := api.Msg{Seq: seq, Kind: api.MsgPut, Key: key, Txn: uint64(max(0, r.Intn(5)-2))}
	switch n := r.Intn(20); {
	case n < 9:
		m.Val = string([]byte{byte(r.Intn(3))}) + strings.Repeat("v", r.Intn(12))
	case n < 13:
		m.Kind = api.MsgDel
	case n < 15:
		m.Kind, m.Off, m.Num = api.MsgAdd, r.Intn(5), r.Uint64()
	case n < 16:
		return grow(seq, r.Intn(4), fmt.Sprint(seq%10))
	case n < 18:
		m.Kind, m.Txn = api.MsgCommit, 1+uint64(r.Intn(2))
	default:
		m.Kind, m.Txn = api.MsgAbort, 1+uint64(r.Intn(2))
	}
	return m
}

// name answers the key number n; they rise.
func name(n int) string { return fmt.Sprintf("k%05d", n) }

// filled answers a tree of count entries in which nothing waits, and what it holds.
func filled(t *testing.T, s Store, sh api.Shape, count int) (uint64, model) {
	t.Helper()
	root, x := makes(t, s, sh), model{}
	for at := range count {
		m := put(uint64(at+1), name(at*7%count), "\x00v")
		x.inject(m)
		root = injects(t, s, sh, root, m)
	}
	return calm(t, s, sh, root), x
}
