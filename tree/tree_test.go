package tree

import (
	"fmt"
	"maps"
	"math"
	"math/bits"
	"math/rand"
	"slices"
	"strings"
	"testing"
	"unsafe"

	"granary/api"
	"granary/msg"
)

func TestExamples(t *testing.T) {
	sh := api.Shape{Leaf: 2, Fan: 2, Buf: 2}
	s := NewMem()
	// 1
	root := makes(t, s, sh)
	if n, ok := s.Get(root); !ok || !n.Leaf || s.Count() != 1 {
		t.Errorf("Make: %d nodes, %s", s.Count(), tell(n))
	}
	root = injects(t, s, sh, root, put(1, "a", "1"), put(2, "b", "2"), put(3, "c", "3"))
	if s.Count() < 3 {
		t.Errorf("%d nodes", s.Count())
	}
	gets(t, s, root, has("b", "2"))
	scans(t, s, root, all, 2, []api.Entry{has("a", "1"), has("b", "2")})
	// 2
	root = injects(t, s, sh, root, put(4, "a", "4"))
	if n, _ := s.Get(root); n.Leaf || len(slices.Concat(n.Bufs...)) != 1 {
		t.Errorf("the root is %s", tell(n))
	}
	gets(t, s, root, has("a", "4"))
	root = flushes(t, s, sh, root, true)
	root = flushes(t, s, sh, root, false)
	gets(t, s, root, has("a", "4"))
	// 3
	root = injects(t, s, sh, root, del(5, "b"))
	scans(t, s, root, all, -1, []api.Entry{has("a", "4"), has("c", "3")})
	gets(t, s, root, api.Entry{Key: "b"})
	if e, errno := Get(s, 99, "b"); e != (api.Entry{}) || errno != api.ErrNone {
		t.Errorf("Get of no root: %v, %d", e, errno)
	}
	if root, errno := Make(s, api.Shape{Leaf: 1, Fan: 2, Buf: 2}); root != 0 || errno != api.ErrArg {
		t.Errorf("Make of no shape: %d, %d", root, errno)
	}
	if root, errno := Inject(s, sh, root, api.Msg{Seq: 6}); root != 0 || errno != api.ErrArg {
		t.Errorf("Inject of no message: %d, %d", root, errno)
	}
}

// The store in memory

func TestMem(t *testing.T) {
	m := NewMem()
	if _, ok := m.Get(1); ok || m.Count() != 0 {
		t.Error("a new one has nodes")
	}
	for want := range uint64(5) {
		if id := m.New(); id != want+1 {
			t.Errorf("New: %d", id)
		}
	}
	if _, ok := m.Get(3); ok || m.Count() != 0 {
		t.Error("New puts nodes")
	}
	leaf := api.Node{Leaf: true, Entries: []api.Entry{has("a", "")}}
	m.Put(2, leaf)
	m.Put(9, leaf)
	m.Put(2, api.Node{Leaf: true, Entries: []api.Entry{has("b", "")}})
	if n, ok := m.Get(2); !ok || tell(n) != tell(api.Node{Leaf: true, Entries: []api.Entry{has("b", "")}}) || m.Count() != 2 {
		t.Errorf("%s, %v of %d nodes", tell(n), ok, m.Count())
	}
	m.Drop(2)
	m.Drop(3)
	if n, ok := m.Get(2); ok || n.Leaf || n.Entries != nil || m.Count() != 1 || m.New() != 6 {
		t.Errorf("behind Drop: %s, %v of %d nodes", tell(n), ok, m.Count())
	}
	m.New()
	m.New()
	if id := m.New(); id != 10 {
		t.Errorf("New, where a node has 9: %d", id)
	}
	if NewMem().New() != 1 {
		t.Error("two stores have to do with one another")
	}
}

func TestMemKeepsWhatWasPut(t *testing.T) {
	m := NewMem()
	fresh := func() api.Node {
		return api.Node{Entries: make([]api.Entry, 1, 9), Pivots: make([]string, 1, 9), Kids: make([]uint64, 1, 9), Bufs: append(make([][]api.Msg, 0, 9), make([]api.Msg, 1, 9), nil)}
	}
	scribble := func(n api.Node) {
		n.Entries[0].Key, n.Pivots[0], n.Kids[0], n.Bufs[0][0].Key = "x", "x", 77, "x"
		_, _ = append(n.Entries, has("y", "")), append(n.Kids, 78)
		_, _, _ = append(n.Pivots, "y"), append(n.Bufs[0], del(1, "y")), append(n.Bufs, nil)
		n.Bufs[1] = []api.Msg{del(2, "z")}
	}
	n := fresh()
	m.Put(1, n)
	scribble(n)
	for range 2 {
		got, _ := m.Get(1)
		if tell(got) != tell(fresh()) {
			t.Errorf("%s", tell(got))
		}
		scribble(got)
	}
}

// P11.1

func TestMake(t *testing.T) {
	at := func(least, most int) []int {
		return []int{math.MinInt, -1, 0, least - 1, least, least + 1, most - 1, most, most + 1, math.MaxInt}
	}
	right := 0
	for _, leaf := range at(2, 64) {
		for _, fan := range at(2, 16) {
			for _, buf := range at(1, 128) {
				s, sh := NewMem(), api.Shape{Leaf: leaf, Fan: fan, Buf: buf}
				root, errno := Make(s, sh)
				if leaf < 2 || leaf > 64 || fan < 2 || fan > 16 || buf < 1 || buf > 128 {
					if root != 0 || errno != api.ErrArg || s.Count() != 0 {
						t.Fatalf("Make of %v: %d, %d, %d nodes", sh, root, errno, s.Count())
					}
					continue
				}
				right++
				if errno != api.OK || s.Count() != 1 {
					t.Fatalf("Make of %v: %d, %d nodes", sh, errno, s.Count())
				}
				holds(t, s, sh, root, model{})
				gets(t, s, root, api.Entry{Key: "a"})
			}
		}
	}
	if right != 4*4*4 {
		t.Errorf("%d shapes", right)
	}
}

func TestTreesInOneStore(t *testing.T) {
	for _, sh := range shapes {
		s := newSpy(t, sh)
		roots, xs, dumps := []uint64{0, 0, 0}, []model{{}, {}, {}}, []string{"", "", ""}
		for at := range roots {
			roots[at] = makes(t, s, sh)
		}
		r := rand.New(rand.NewSource(1))
		for seq := range uint64(250) {
			at := r.Intn(3)
			for other := range roots {
				dumps[other] = dump(s, roots[other])
			}
			m := chance(r, seq, name(r.Intn(40)))
			xs[at].inject(m)
			roots[at] = injects(t, s, sh, roots[at], m)
			if r.Intn(4) == 0 {
				roots[at], _, _ = Flush(s, sh, roots[at])
			}
			holds(t, s, sh, roots[at], xs[at])
			sum := 0
			for other := range roots {
				if other != at && dump(s, roots[other]) != dumps[other] {
					t.Fatal("another tree has changed")
				}
				count, _ := nodesOf(s, roots[other])
				sum += count
			}
			if sum != len(s.nodes) {
				t.Fatalf("%d nodes are in the trees, %d in the store", sum, len(s.nodes))
			}
		}
	}
}

// P11.2

func TestErrors(t *testing.T) {
	sh, wrong := api.Shape{Leaf: 2, Fan: 2, Buf: 2}, []api.Shape{{}, {Leaf: 1, Fan: 2, Buf: 2}, {Leaf: 65, Fan: 2, Buf: 2}, {Leaf: 2, Fan: 1, Buf: 2}, {Leaf: 2, Fan: 17, Buf: 2}, {Leaf: 2, Fan: 2}, {Leaf: 2, Fan: 2, Buf: 129}, {Leaf: -2, Fan: -2, Buf: -2}}
	s := newSpy(t, sh)
	root, _ := filled(t, s, sh, 20)
	root = injects(t, s, sh, root, put(100, "b", ""), put(101, "c", ""))
	was := whole(s.nodes)
	s.puts = nil
	injecting := func(sh api.Shape, root uint64, m api.Msg, want api.Errno) {
		t.Helper()
		if root, errno := Inject(s, sh, root, m); root != 0 || errno != want {
			t.Errorf("Inject(%v, %d, %.80v): %d, %d, want %d", sh, root, m, root, errno, want)
		}
	}
	flushing := func(sh api.Shape, root uint64, want api.Errno) {
		t.Helper()
		if root, waited, errno := Flush(s, sh, root); root != 0 || waited || errno != want {
			t.Errorf("Flush(%v, %d): %d, %v, %d, want %d", sh, root, root, waited, errno, want)
		}
	}
	long := put(102, strings.Repeat("k", 257), "")
	for _, sh := range wrong {
		for _, root := range []uint64{root, 0, 99} {
			injecting(sh, root, put(102, "a", ""), api.ErrArg)
			injecting(sh, root, long, api.ErrArg)
			flushing(sh, root, api.ErrArg)
		}
	}
	for _, root := range []uint64{root, 0, 99} {
		injecting(sh, root, long, api.ErrBound)
		injecting(sh, root, put(102, "a", strings.Repeat("v", 513)), api.ErrBound)
		injecting(sh, root, api.Msg{Seq: 102}, api.ErrArg)
		injecting(sh, root, api.Msg{Seq: 102, Kind: 7}, api.ErrArg)
		injecting(sh, root, api.Msg{Seq: 102, Kind: api.MsgCommit, Key: "a"}, api.ErrArg)
		injecting(sh, root, api.Msg{Seq: 102, Kind: api.MsgGrow, Key: "a"}, api.ErrArg)
	}
	for _, root := range []uint64{0, 1, 99, math.MaxUint64} {
		injecting(sh, root, put(102, "a", ""), api.ErrNone)
		flushing(sh, root, api.ErrNone)
		if e, errno := Get(s, root, "b"); e != (api.Entry{}) || errno != api.ErrNone {
			t.Errorf("Get(%d): %v, %d", root, e, errno)
		}
		for _, most := range []int{-1, 0, 1} {
			if l, errno := Scan(s, root, all, most); len(l) != 0 || errno != api.ErrNone {
				t.Errorf("Scan(%d): %v, %d", root, l, errno)
			}
		}
		if errno := Drop(s, root); errno != api.ErrNone {
			t.Errorf("Drop(%d): %d", root, errno)
		}
		if Sound(s, sh, root) {
			t.Errorf("Sound(%d)", root)
		}
	}
	if whole(s.nodes) != was || len(s.puts) != 0 {
		t.Error("a call that answered an error has changed something")
	}
}

func TestMessagesWaitInTheRoot(t *testing.T) {
	for _, sh := range shapes {
		s := newSpy(t, sh)
		root, x := filled(t, s, sh, 200)
		for at := range sh.Buf {
			m := put(uint64(1000+at), name(at*13%200), "w")
			x.inject(m)
			s.puts = nil
			if next := injects(t, s, sh, root, m); next != root || !slices.Equal(s.puts, []uint64{root}) {
				t.Fatalf("%v: message %d of so many that may wait puts %d nodes", sh, at+1, len(s.puts))
			}
			gets(t, s, root, x.get(m.Key))
		}
		if _, waiting := nodesOf(s, root); waiting != sh.Buf {
			t.Errorf("%v: %d messages wait", sh, waiting)
		}
		root = injects(t, s, sh, root, put(2000, "k", ""))
		x.inject(put(2000, "k", ""))
		holds(t, s, sh, root, x)
	}
}

// TestFlush lets messages come down one Flush behind the other.
func TestFlush(t *testing.T) {
	for _, sh := range shapes {
		s, x := newSpy(t, sh), model{}
		root := makes(t, s, sh)
		r := rand.New(rand.NewSource(2))
		flushed := 0
		for seq := range uint64(500) {
			m := chance(r, seq, name(r.Intn(80)))
			x.inject(m)
			root = injects(t, s, sh, root, m)
			if r.Intn(12) != 0 {
				continue
			}
			for calls := r.Intn(30); calls > 0; calls-- {
				_, waiting := nodesOf(s, root)
				nodes, left := len(s.nodes), toGo(s, root, height(s, root))
				s.puts = nil
				next := flushes(t, s, sh, root, waiting > 0)
				if waiting == 0 {
					if next != root || len(s.nodes) != nodes || len(s.puts) != 0 {
						t.Fatalf("%v: a Flush without anything to do has changed something", sh)
					}
					break
				}
				root = next
				flushed++
				if toGo(s, root, height(s, root)).Cmp(left) >= 0 {
					t.Fatalf("%v: nothing has come down:\n%s", sh, dump(s, root))
				}
				holds(t, s, sh, root, x)
			}
		}
		root = calm(t, s, sh, root)
		holds(t, s, sh, root, x)
		if flushed < 10 {
			t.Errorf("%v: %d calls", sh, flushed)
		}
	}
}

// P11.3

// TestAnyMessages holds trees against what msg makes of the messages, key by key.
func TestAnyMessages(t *testing.T) {
	for at, sh := range shapes {
		for _, keys := range []int{1, 3, 12, 60, 400} {
			s, x := newSpy(t, sh), model{}
			root := makes(t, s, sh)
			r := rand.New(rand.NewSource(int64(at*1000 + keys)))
			var l []api.Msg
			for step := range 500 {
				m := chance(r, uint64(step*step+5), name(r.Intn(keys)))
				l = append(l, m)
				x.inject(m)
				root = injects(t, s, sh, root, m)
				gets(t, s, root, x.get(m.Key))
				gets(t, s, root, x.get(name(r.Intn(keys))))
				if step%10 == 0 {
					holds(t, s, sh, root, x)
				}
				span := api.Span{Lo: name(r.Intn(keys)), Hi: name(r.Intn(keys + 1)), Open: r.Intn(4) == 0}
				most := r.Intn(9) - 2
				scans(t, s, root, span, most, x.scan(span, most))
			}
			for key := range keys {
				gets(t, s, root, msg.Fold(api.Entry{Key: name(key)}, l))
			}
			root = calm(t, s, sh, root)
			holds(t, s, sh, root, x)
		}
	}
}

func TestSpans(t *testing.T) {
	sh := api.Shape{Leaf: 2, Fan: 3, Buf: 4}
	s, x := newSpy(t, sh), model{}
	root := makes(t, s, sh)
	ends := []string{"", "\x00", "a", "a\x00", "a\x00\x00", "aa", "b", "c", "ca", "d", "e", "\xff", "\xff\xff", strings.Repeat("k", 256), strings.Repeat("k", 257)}
	for at, key := range ends[:len(ends)-1] {
		m := put(uint64(at), key, fmt.Sprint(at))
		x.inject(m)
		root = injects(t, s, sh, root, m)
	}
	for _, waits := range []bool{true, false} {
		if _, waiting := nodesOf(s, root); (waiting > 0) != waits {
			t.Errorf("%d messages wait", waiting)
		}
		for _, lo := range ends {
			gets(t, s, root, x.get(lo))
			for _, hi := range ends {
				for most := -2; most < 18; most++ {
					span := api.Span{Lo: lo, Hi: hi}
					scans(t, s, root, span, most, x.scan(span, most))
				}
				span := api.Span{Lo: lo, Hi: hi, Open: true}
				scans(t, s, root, span, -1, x.scan(span, -1))
				scans(t, s, root, span, math.MaxInt, x.scan(span, -1))
				scans(t, s, root, span, math.MinInt, x.scan(span, -1))
			}
		}
		root = calm(t, s, sh, root)
	}
	scans(t, s, root, api.Span{Lo: "c", Hi: "b"}, -1, nil)
	scans(t, s, root, api.Span{Lo: "c", Hi: "c"}, -1, nil)
}

func TestAskingChangesNothing(t *testing.T) {
	sh := api.Shape{Leaf: 3, Fan: 3, Buf: 6}
	m := NewMem()
	root, x := filled(t, m, sh, 50)
	for at := range uint64(5) {
		root = injects(t, m, sh, root, put(1000+at, name(int(at)*10), "w"))
		x.inject(put(1000+at, name(int(at)*10), "w"))
	}
	was, last := whole(m.nodes), m.last
	for range 2 {
		l, _ := Scan(m, root, all, -1)
		if !slices.Equal(l, x.scan(all, -1)) {
			t.Fatalf("%v", l)
		}
		for at := range l {
			l[at] = has("x", "x")
		}
		_ = append(l[:len(l)/2], has("y", "y"))
		for key := range 60 {
			gets(t, m, root, x.get(name(key)))
		}
		isSound(t, m, sh, root, true)
		if whole(m.nodes) != was || m.last != last {
			t.Fatal("asking has changed the store")
		}
	}
}

// stored answers all keys and values that lie in the nodes that can be reached.
func stored(s Store, id uint64) []string {
	n, _ := s.Get(id)
	l := slices.Clone(n.Pivots)
	for _, e := range n.Entries {
		l = append(l, e.Key, e.Val, e.NewVal)
	}
	for _, m := range slices.Concat(n.Bufs...) {
		l = append(l, m.Key, m.Val)
	}
	for _, kid := range n.Kids {
		l = append(l, stored(s, kid)...)
	}
	return l
}

// shares asks two lists for texts in the same memory.
func shares(a, b []string) bool {
	for _, x := range a {
		for _, y := range b {
			if x != "" && y != "" && unsafe.StringData(x) == unsafe.StringData(y) {
				return true
			}
		}
	}
	return false
}

func TestAnswersAreNewMemory(t *testing.T) {
	for _, sh := range shapes {
		m := NewMem()
		root := makes(t, m, sh)
		var handed []string
		for at := range uint64(40) {
			p := put(at+1, name(int(at%30)), fmt.Sprint("v", at))
			p.Txn = at % 2
			root = injects(t, m, sh, root, p)
			handed = append(handed, p.Key, p.Val)
		}
		if shares(handed, stored(m, root)) {
			t.Errorf("%v: what was injected is kept", sh)
		}
		for at := range 40 {
			key := name(at)
			e, _ := Get(m, root, key)
			if shares([]string{e.Key, e.Val, e.NewVal}, append(stored(m, root), key)) {
				t.Errorf("%v: Get(%q) shares its memory", sh, key)
			}
		}
		l, _ := Scan(m, root, all, -1)
		for _, e := range l {
			if shares([]string{e.Key, e.Val, e.NewVal}, stored(m, root)) {
				t.Errorf("%v: Scan shares its memory", sh)
			}
		}
	}
}

// TestFirstOfMany asks Scan not to go through all of a great tree for a few entries.
func TestFirstOfMany(t *testing.T) {
	sh := api.Shape{Leaf: 2, Fan: 2, Buf: 4}
	s := newSpy(t, sh)
	root, x := filled(t, s, sh, 1000)
	nodes, _ := nodesOf(s, root)
	few := func(span api.Span, most int) {
		t.Helper()
		s.gets = 0
		scans(t, s, root, span, most, x.scan(span, most))
		if s.gets > 3*height(s, root) || nodes < 1000 {
			t.Errorf("Scan(%v, %d) asked for %d of %d nodes", span, most, s.gets, nodes)
		}
	}
	few(all, 0)
	few(all, 3)
	few(api.Span{Lo: name(500), Open: true}, 3)
	few(api.Span{Lo: name(500), Hi: name(503)}, -1)
	few(api.Span{Lo: name(998), Open: true}, -1)
	few(api.Span{Hi: name(2)}, -1)
}

// P11.4

func TestSameCallsSameAnswers(t *testing.T) {
	run := func(sh api.Shape) string {
		m, r := NewMem(), rand.New(rand.NewSource(3))
		root := makes(t, m, sh)
		for seq := range uint64(800) {
			root = injects(t, m, sh, root, chance(r, seq, name(r.Intn(100))))
			if r.Intn(5) == 0 {
				root, _, _ = Flush(m, sh, root)
			}
		}
		return fmt.Sprint(root, whole(m.nodes))
	}
	for _, sh := range shapes {
		if run(sh) != run(sh) {
			t.Errorf("%v: two stores", sh)
		}
	}
}

func TestDrop(t *testing.T) {
	for _, sh := range shapes {
		for _, count := range []int{0, 1, 2, 3, 10, 300} {
			m := NewMem()
			other, x := filled(t, m, sh, 30)
			was := whole(m.nodes)
			root, _ := filled(t, m, sh, count)
			root = injects(t, m, sh, root, put(5000, "a", ""), grow(5001, 0, "g"))
			if errno := Drop(m, root); errno != api.OK || whole(m.nodes) != was {
				t.Fatalf("%v: Drop of %d entries: %d, %d nodes", sh, count, errno, m.Count())
			}
			holds(t, m, sh, other, x)
			if errno := Drop(m, root); errno != api.ErrNone || whole(m.nodes) != was {
				t.Fatalf("%v: Drop again: %d", sh, errno)
			}
			if errno := Drop(m, other); errno != api.OK || m.Count() != 0 {
				t.Fatalf("%v: Drop of all: %d, %d nodes", sh, errno, m.Count())
			}
		}
	}
}

// TestEmptied lets trees grow, and lose all but one entry, or all, again: nothing is left of them but a leaf.
func TestEmptied(t *testing.T) {
	count := 250
	rising := make([]int, count)
	for at := range rising {
		rising[at] = at
	}
	falling := slices.Clone(rising)
	slices.Reverse(falling)
	r := rand.New(rand.NewSource(4))
	orders := [][]int{rising, falling, r.Perm(count), r.Perm(count)}
	for _, sh := range shapes {
		s, x := newSpy(t, sh), model{}
		root, seq := makes(t, s, sh), uint64(0)
		step := func(m api.Msg) {
			seq++
			m.Seq = seq
			x.inject(m)
			root = injects(t, s, sh, root, m)
			if seq%50 == 0 {
				holds(t, s, sh, root, x)
			}
		}
		for at, order := range orders {
			for _, key := range order {
				step(put(0, name(key), "v"))
			}
			last := name(orders[len(orders)-1-at][0])
			for _, key := range orders[(at+1)%len(orders)] {
				if name(key) != last {
					step(del(0, name(key)))
				}
			}
			root = calm(t, s, sh, root)
			holds(t, s, sh, root, x)
			if len(s.nodes) != 1 {
				t.Errorf("%v: %d nodes are left of one entry", sh, len(s.nodes))
			}
			step(del(0, last))
			root = calm(t, s, sh, root)
			holds(t, s, sh, root, model{})
			if len(s.nodes) != 1 {
				t.Errorf("%v: %d nodes are left", sh, len(s.nodes))
			}
		}
	}
}

func TestGreatestThings(t *testing.T) {
	sh := api.Shape{Leaf: 2, Fan: 2, Buf: 2}
	s, x := newSpy(t, sh), model{}
	root := makes(t, s, sh)
	key := func(at int) string { return strings.Repeat("k", 255) + string([]byte{byte(at * 37)}) }
	for at := range 60 {
		m := api.Msg{Seq: math.MaxUint64 - 200 + uint64(at), Kind: api.MsgPut, Key: key(at % 20), Txn: math.MaxUint64 * uint64(at%2), Val: strings.Repeat("\x01", 512-at%3)}
		x.inject(m)
		root = injects(t, s, sh, root, m)
		holds(t, s, sh, root, x)
	}
	for at := range uint64(3) {
		m := grow(math.MaxUint64-2+at, 1+int(at), "g")
		x.inject(m)
		root = injects(t, s, sh, root, m)
		holds(t, s, sh, root, x)
	}
}

// TestGrowsAmongOthers lets Grows wait at all heights, in trees in which more kids than messages may be.
func TestGrowsAmongOthers(t *testing.T) {
	for _, sh := range shapes {
		s := newSpy(t, sh)
		root, x := filled(t, s, sh, 60)
		r := rand.New(rand.NewSource(5))
		for at := range uint64(240) {
			m := grow(1000+at, int(at/2), "g")
			if r.Intn(2) == 0 {
				m = put(1000+at, name(r.Intn(60)), string([]byte{byte(at / 2)}))
			}
			x.inject(m)
			root = injects(t, s, sh, root, m)
			holds(t, s, sh, root, x)
			if r.Intn(6) == 0 {
				root, _, _ = Flush(s, sh, root)
				holds(t, s, sh, root, x)
			}
		}
	}
}

// TestTreesStayLow lets trees grow in order, in which those with few kids a node would become as high as they have leaves.
func TestTreesStayLow(t *testing.T) {
	r := rand.New(rand.NewSource(6))
	for _, sh := range shapes {
		for order, key := range []func(at int) int{
			func(at int) int { return at },
			func(at int) int { return 99999 - at },
			func(at int) int { return at%2*50000 + at },
			func(at int) int { return 50000 + (at%2*2-1)*at },
			func(at int) int { return at % 40 * 1000 },
			func(at int) int { return r.Intn(500) },
		} {
			s, x := newSpy(t, sh), model{}
			root := makes(t, s, sh)
			low := func(seq int) {
				t.Helper()
				high, nodes := height(s, root), len(s.nodes)
				if high > 2*bits.Len(uint(len(x)))+3 || nodes > 3*len(x)+3 {
					t.Fatalf("%v, order %d: behind message %d %d nodes hold %d entries, %d high", sh, order, seq, nodes, len(x), high)
				}
			}
			// A window of entries that goes on, and then grows.
			for seq := range 1200 {
				m := put(uint64(seq), name(key(seq/2)), "v")
				if seq%2 == 1 && seq > 400 && seq < 900 {
					m = del(uint64(seq), name(key((seq-400)/2)))
				}
				x.inject(m)
				root = injects(t, s, sh, root, m)
				if seq%100 == 0 {
					root = calm(t, s, sh, root)
					holds(t, s, sh, root, x)
					low(seq)
				}
			}
			holds(t, s, sh, root, x)
			root = calm(t, s, sh, root)
			low(1200)
		}
	}
}

// TestThinnedOut lets trees lose most of their entries, those that are left being spread over all of it.
func TestThinnedOut(t *testing.T) {
	for _, sh := range []api.Shape{{Leaf: 2, Fan: 2, Buf: 2}, {Leaf: 3, Fan: 3, Buf: 1}, {Leaf: 8, Fan: 4, Buf: 8}, {Leaf: 32, Fan: 16, Buf: 16}} {
		for order, key := range []func(at int) int{
			func(at int) int { return at },
			func(at int) int { return 799 - at },
			func(at int) int { return at * 7 % 800 },
		} {
			s := newSpy(t, sh)
			root, x := filled(t, s, sh, 800)
			was := len(s.nodes)
			for at := range 800 {
				if key(at)%16 != 5 {
					m := del(uint64(5000+at), name(key(at)))
					x.inject(m)
					root = injects(t, s, sh, root, m)
				}
			}
			root = calm(t, s, sh, root)
			holds(t, s, sh, root, x)
			if len(x) != 50 || len(s.nodes)*5 > was {
				t.Errorf("%v, order %d: %d nodes hold %d entries, %d held 800", sh, order, len(s.nodes), len(x), was)
			}
		}
	}
}

// TestFlushLooksAtNoLeaves asks Flush not to go through all leaves for what doesn't wait there.
func TestFlushLooksAtNoLeaves(t *testing.T) {
	sh := api.Shape{Leaf: 2, Fan: 16, Buf: 16}
	s := newSpy(t, sh)
	root, _ := filled(t, s, sh, 1000)
	s.gets = 0
	flushes(t, s, sh, root, false)
	if nodes := len(s.nodes); s.gets*4 > nodes {
		t.Errorf("Flush asked for %d of %d nodes", s.gets, nodes)
	}
}

// TestMissingKids asks calls to end all the same, where a kid isn't there.
func TestMissingKids(t *testing.T) {
	for _, sh := range shapes {
		was := NewMem()
		root, _ := filled(t, was, sh, 40)
		root = injects(t, was, sh, root, del(100, name(3)), put(101, name(30), "w"))
		for _, missing := range slices.Sorted(maps.Keys(was.nodes)) {
			m := NewMem()
			m.last = was.last
			for id, n := range was.nodes {
				if id != missing || id == root {
					m.Put(id, n)
				}
			}
			for key := range 42 {
				if e, errno := Get(m, root, name(key)); e.Key != name(key) || errno != api.OK {
					t.Errorf("Get: %v, %d", e, errno)
				}
			}
			if _, errno := Scan(m, root, all, -1); errno != api.OK {
				t.Errorf("Scan: %d", errno)
			}
			if root != missing && Sound(m, sh, root) {
				t.Error("Sound, where a kid is missing")
			}
			next := root
			for seq := range uint64(60) {
				next = injects(t, m, sh, next, put(200+2*seq, name(int(seq*7%60)), ""), del(201+2*seq, name(int(seq))))
				next, _, _ = Flush(m, sh, next)
			}
			Drop(m, next)
		}
	}
}

// P11.5

func TestGrowPutsTheRootAlone(t *testing.T) {
	for _, sh := range shapes {
		for _, count := range []int{0, 1, sh.Leaf, sh.Leaf + 1, 30, 200} {
			s := newSpy(t, sh)
			root, x := filled(t, s, sh, count)
			nodes := len(s.nodes)
			m := grow(5000, 0, "g")
			x.inject(m)
			s.puts = nil
			next := injects(t, s, sh, root, m)
			if sh.Buf >= sh.Fan && (next != root || !slices.Equal(s.puts, []uint64{root}) || len(s.nodes) != nodes) {
				t.Errorf("%v: a Grow of %d entries puts %d nodes", sh, count, len(s.puts))
			}
			holds(t, s, sh, next, x)
			for _, e := range x {
				if e.Val != "\x01vg" {
					t.Fatalf("%v", e)
				}
			}
			for _, waiting := nodesOf(s, next); waiting > 0; _, waiting = nodesOf(s, next) {
				s.puts = nil
				next = flushes(t, s, sh, next, true)
				if sh.Buf >= sh.Fan && len(s.puts) != 2 {
					t.Fatalf("%v: a Grow that comes from a node to a kid puts %d nodes", sh, len(s.puts))
				}
			}
			holds(t, s, sh, next, x)
		}
	}
}
