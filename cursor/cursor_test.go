package cursor

import (
	"fmt"
	"math"
	"math/rand"
	"slices"
	"strings"
	"testing"
	"unsafe"

	"granary/api"
	"granary/msg"
	"granary/tree"
)

func TestExamples(t *testing.T) {
	for _, sh := range shapes {
		for flushes := -1; flushes < 4; flushes++ {
			g := newGrown(t, sh)
			g.inject(t, put("c", "3", 0), put("b", "2", 0), put("a", "1", 0), del("b", 7))
			g.flush(flushes)
			c := opens(t, g, g.root, all, 0)
			if l := gathers(c.Next); !slices.Equal(l, []api.Pair{{Key: "a", Val: "1"}, {Key: "b", Val: "2"}, {Key: "c", Val: "3"}}) {
				t.Errorf("%v", l)
			}
			nexts(t, c, "-")
			prevs(t, c, "c b")
			c.Seek("aa")
			nexts(t, c, "b")
			c.Seek("z")
			nexts(t, c, "-")
			prevs(t, c, "c")
			nexts(t, opens(t, g, g.root, all, 7), "a c -")
			c = opens(t, g, g.root, api.Span{Lo: "b", Hi: "c"}, 0)
			nexts(t, c, "b -")
			c.Seek("a")
			nexts(t, c, "b -")
			c.End()
			prevs(t, c, "b -")
		}
	}
}

// P12.1

func TestOpenOfNoRoot(t *testing.T) {
	g := newGrown(t, shapes[0])
	g.inject(t, put("a", "", 0), put("b", "", 0), put("c", "", 0))
	check := func(id uint64) {
		t.Helper()
		for _, span := range []api.Span{all, {}, {Lo: "a", Hi: "b"}} {
			for _, txn := range []uint64{0, 7} {
				if c, errno := Open(g, id, span, txn); c != nil || errno != api.ErrNone {
					t.Errorf("Open of the root %d: %v, %d", id, c, errno)
				}
			}
		}
	}
	check(0)
	check(99)
	check(math.MaxUint64)
	opens(t, g, g.root, all, 0)
	tree.Drop(g, g.root)
	check(g.root)
}

func TestOpenStandsAheadOfAll(t *testing.T) {
	for _, sh := range shapes {
		g := newGrown(t, sh)
		nexts(t, opens(t, g, g.root, all, 0), "- -")
		prevs(t, opens(t, g, g.root, all, 0), "- -")
		for at := range 30 {
			g.inject(t, put(name(at*7%30), "", 0))
		}
		for _, span := range []api.Span{all, {Lo: name(4), Open: true}, {Lo: name(4) + "x", Open: true}, {Hi: name(9)}, {Lo: "k", Hi: "l"}} {
			want := g.held.pairs(span, 0)
			prevs(t, opens(t, g, g.root, span, 0), "- -")
			c := opens(t, g, g.root, span, 0)
			if l := gathers(c.Next); !slices.Equal(l, want) {
				t.Errorf("%v, %v: %v, want %v", sh, span, l, want)
			}
			if l := gathers(c.Prev); len(l) != len(want) {
				t.Errorf("%v, %v: back there are %d of %d pairs", sh, span, len(l), len(want))
			}
		}
	}
}

func TestNilCursor(t *testing.T) {
	var c *Cursor
	for range 2 {
		nexts(t, c, "- -")
		prevs(t, c, "- -")
		c.Seek("a")
		c.End()
	}
}

// P12.2, P12.3

// byHand answers a sound tree of three heights with leaves in which nothing is, a node with one kid, a pivot at the lower end of what is left to its node, and messages that wait at both heights; its root is 1.
func byHand() *tree.Mem {
	m := tree.NewMem()
	root := inner([]uint64{2, 3, 4}, "f", "p")
	root = waits(root, 0, 20, put("d", "new", 0), del("b", 0), put("e", "own", 7))
	root = waits(root, 2, 30, del("t", 7), put("z", "new", 0), put("p", "own", 7))
	m.Put(1, root)
	m.Put(2, waits(inner([]uint64{10, 11}, "c"), 0, 10, put("b", "old", 0)))
	m.Put(3, waits(inner([]uint64{12}), 0, 10, del("g", 0)))
	m.Put(4, waits(inner([]uint64{13, 14, 15}, "p", "t"), 1, 10, put("q", "new", 0)))
	m.Put(10, leafOf("a"))
	m.Put(11, leafOf())
	m.Put(12, leafOf("g"))
	m.Put(13, leafOf())
	m.Put(14, leafOf("p"))
	m.Put(15, leafOf("t"))
	return m
}

// handShape is that of byHand.
var handShape = api.Shape{Leaf: 2, Fan: 3, Buf: 6}

func TestByHand(t *testing.T) {
	m := byHand()
	if !tree.Sound(m, handShape, 1) {
		t.Fatal("the tree isn't sound")
	}
	for txn, want := range map[uint64]string{
		0: "a=a d=new p=p q=new t=t z=new",
		7: "a=a d=new e=own p=own q=new z=new",
		8: "a=a d=new p=p q=new t=t z=new",
	} {
		c := opens(t, m, 1, all, txn)
		l := gathers(c.Next)
		var got []string
		for _, p := range l {
			got = append(got, p.Key+"="+p.Val)
		}
		if strings.Join(got, " ") != want {
			t.Errorf("by %d: %q, want %q", txn, got, want)
		}
		slices.Reverse(l)
		if back := gathers(c.Prev); !slices.Equal(back, l) {
			t.Errorf("by %d, back: %v, want %v", txn, back, l)
		}
	}
}

// TestAllShortWalks asks for all ways of four steps through spans of the tree made by hand.
func TestAllShortWalks(t *testing.T) {
	s := freeze(t, byHand(), 1)
	keys := []string{"", "b", "dd", "f", "p", "p\x00", "zz"}
	steps := len(keys) + 3
	spans := []api.Span{all, {}, {Open: true, Hi: "d"}, {Lo: "b", Hi: "g"}, {Lo: "f", Hi: "p"}, {Lo: "p", Hi: "q"}, {Lo: "q", Hi: "p"}, {Lo: "p", Hi: "p"}, {Lo: "d", Hi: "tt"}, {Lo: "t", Open: true}, {Lo: "zzz", Open: true}, {Hi: "a"}, {Hi: "p"}, {Lo: "a\x00", Hi: "z"}}
	for _, span := range spans {
		for _, txn := range []uint64{0, 7} {
			l := handPairs(span, txn)
			for n := range steps * steps * steps * steps {
				c, p := opens(t, s, 1, span, txn), &plain{pairs: l}
				way := n
				for range 4 {
					step := way % steps
					way /= steps
					var a, b api.Pair
					var okA, okB bool
					switch step - len(keys) {
					case 0:
						a, okA = c.Next()
						b, okB = p.Next()
					case 1:
						a, okA = c.Prev()
						b, okB = p.Prev()
					case 2:
						c.End()
						p.End()
					default:
						c.Seek(keys[step])
						p.Seek(keys[step])
					}
					if a != b || okA != okB {
						t.Fatalf("way %d through %v by %d: %v, %v, want %v, %v", n, span, txn, a, okA, b, okB)
					}
				}
			}
		}
	}
}

// handPairs answers the pairs of the tree made by hand, written down by hand too.
func handPairs(span api.Span, txn uint64) []api.Pair {
	l := []api.Pair{{Key: "a", Val: "a"}, {Key: "d", Val: "new"}, {Key: "p", Val: "p"}, {Key: "q", Val: "new"}, {Key: "t", Val: "t"}, {Key: "z", Val: "new"}}
	if txn == 7 {
		l = []api.Pair{{Key: "a", Val: "a"}, {Key: "d", Val: "new"}, {Key: "e", Val: "own"}, {Key: "p", Val: "own"}, {Key: "q", Val: "new"}, {Key: "z", Val: "new"}}
	}
	return slices.DeleteFunc(l, func(p api.Pair) bool { return p.Key < span.Lo || !span.Open && p.Key >= span.Hi })
}

// TestNoneStays asks a cursor to stay where it stands, when there is nothing more, however often it is asked.
func TestNoneStays(t *testing.T) {
	for _, sh := range shapes {
		g := newGrown(t, sh)
		for at := range 40 {
			g.inject(t, put(name(at), "", 0))
		}
		for at := range 40 {
			if at != 20 && at != 21 {
				g.inject(t, del(name(at), 0))
			}
		}
		for _, span := range []api.Span{all, {Lo: name(3), Hi: name(33)}, {Lo: name(20), Hi: name(22)}} {
			c := opens(t, g, g.root, span, 0)
			prevs(t, c, "- - -")
			nexts(t, c, "k00020 k00021 - - -")
			prevs(t, c, "k00021 k00020 - - -")
			nexts(t, c, "k00020")
			prevs(t, c, "k00020 -")
			c.End()
			nexts(t, c, "- -")
			prevs(t, c, "k00021")
			nexts(t, c, "k00021 -")
		}
	}
}

func TestSeek(t *testing.T) {
	for _, sh := range shapes {
		g := newGrown(t, sh)
		keys := []string{"", "\x00", "a", "k", "l", strings.Repeat("\xff", api.MaxKey), strings.Repeat("\xff", 300)}
		for at := range 25 {
			keys = append(keys, name(at), name(at)+"\x00", name(at)+"x")
			g.inject(t, put(name(at*7%25), "", 0))
		}
		g.inject(t, put("", "", 0), put(keys[5], "", 0), del(name(11), 0), del(name(12), 0))
		for _, span := range []api.Span{all, {Lo: name(5), Open: true}, {Lo: name(5) + "x", Hi: name(18)}, {Hi: name(18) + "\x00"}, {Lo: name(11), Hi: name(13)}, {Lo: name(9), Hi: name(9)}, {Lo: name(9), Hi: name(3)}, {}} {
			c, p := opens(t, g, g.root, span, 0), &plain{pairs: g.held.pairs(span, 0)}
			for _, key := range keys {
				for _, steps := range [][]string{{"Next"}, {"Prev"}, {"Next", "Prev", "Prev"}, {"Prev", "Next", "Next"}} {
					c.Seek(key)
					p.Seek(key)
					for _, step := range steps {
						a, okA := c.Next, p.Next
						if step == "Prev" {
							a, okA = c.Prev, p.Prev
						}
						got, ok := a()
						want, wantOk := okA()
						if got != want || ok != wantOk {
							t.Fatalf("%v, Seek(%.20q) in %v, %v: %.30q, %v, want %.30q", sh, key, span, steps, got, ok, want)
						}
					}
				}
			}
		}
	}
}

func TestEnd(t *testing.T) {
	for _, sh := range shapes {
		g := newGrown(t, sh)
		for at := range 25 {
			g.inject(t, put(name(at*7%25), "", 0))
		}
		g.inject(t, put("", "", 0), put("\xff", "", 0), del(name(24), 0))
		for _, span := range []api.Span{all, {Open: true, Hi: "a"}, {Lo: name(5), Open: true}, {Lo: name(5), Hi: name(18)}, {Hi: name(24) + "x"}, {Hi: "\xff"}, {Lo: name(9), Hi: name(3)}, {}} {
			want := g.held.pairs(span, 0)
			c := opens(t, g, g.root, span, 0)
			for range 2 {
				c.End()
				nexts(t, c, "-")
				l := gathers(c.Prev)
				slices.Reverse(l)
				if !slices.Equal(l, want) {
					t.Fatalf("%v, %v: %v, want %v", sh, span, l, want)
				}
			}
		}
	}
}

// tricky are keys that lie close to one another, and at both ends.
var tricky = []string{"", "\x00", "\x00\x00", "a", "a\x00", "a\x00\x00", "a\xff", "b", "\xff", "\xff\xff", strings.Repeat("\xff", api.MaxKey), strings.Repeat("a", api.MaxKey)}

// TestWander goes by chance through trees that grow by chance, as transactions see them.
func TestWander(t *testing.T) {
	keys := slices.Clone(tricky)
	for at := range 40 {
		keys = append(keys, name(at))
	}
	for seed, sh := range shapes {
		r := rand.New(rand.NewSource(int64(seed)))
		g := newGrown(t, sh)
		for range 120 {
			for range r.Intn(9) {
				g.inject(t, chance(r, keys[r.Intn(len(keys))]))
			}
			g.flush(r.Intn(3))
			for range 3 {
				span := api.Span{Lo: keys[r.Intn(len(keys))], Hi: keys[r.Intn(len(keys))], Open: r.Intn(3) == 0}
				if r.Intn(3) == 0 {
					span.Lo = ""
				}
				txn := uint64(r.Intn(4))
				c := opens(t, g, g.root, span, txn)
				wander(t, r, c, &plain{pairs: g.held.pairs(span, txn)}, keys, 60)
			}
		}
	}
}

// TestCursorsAtOnce asks several cursors on one tree to have nothing to do with one another.
func TestCursorsAtOnce(t *testing.T) {
	g := newGrown(t, shapes[4])
	r := rand.New(rand.NewSource(3))
	var keys []string
	for at := range 30 {
		keys = append(keys, name(at))
		g.inject(t, put(name(at), "v", uint64(at%3)))
	}
	var cursors []*Cursor
	var plains []*plain
	for at := range 9 {
		span, txn := api.Span{Lo: name(at), Hi: name(20 + at)}, uint64(at%4)
		cursors = append(cursors, opens(t, g, g.root, span, txn))
		plains = append(plains, &plain{pairs: g.held.pairs(span, txn)})
	}
	for range 600 {
		at := r.Intn(len(cursors))
		wander(t, r, cursors[at], plains[at], keys, 1+r.Intn(4))
	}
}

// P0.1

// TestTellsAsScanAndGet asks a cursor for just what Scan and Get tell, while messages come down.
func TestTellsAsScanAndGet(t *testing.T) {
	for seed, sh := range shapes {
		r := rand.New(rand.NewSource(int64(seed)))
		g := newGrown(t, sh)
		for range 300 {
			g.inject(t, chance(r, name(r.Intn(60))))
		}
		for waited := true; waited; g.root, waited, _ = tree.Flush(g, sh, g.root) {
			for txn := range uint64(4) {
				c := opens(t, g, g.root, all, txn)
				l, _ := tree.Scan(g, g.root, all, -1)
				for _, e := range l {
					val, ok := msg.View(e, txn)
					if !ok {
						continue
					}
					if p, there := c.Next(); !there || p != (api.Pair{Key: e.Key, Val: val}) {
						t.Fatalf("%v: Next: %v, %v, Scan: %v", sh, p, there, e)
					}
					got, _ := tree.Get(g, g.root, e.Key)
					if one, _ := msg.View(got, txn); one != val {
						t.Fatalf("%v: Get: %v, Scan: %v", sh, got, e)
					}
				}
				nexts(t, c, "-")
			}
		}
	}
}

// TestGrowsWait asks for values that a Grow above the leaves has changed, where they wait themselves, stand in a leaf, or came behind it.
func TestGrowsWait(t *testing.T) {
	m := tree.NewMem()
	m.Put(1, waits(inner([]uint64{2, 3}, "m"), 0, 20, grow(1, "g"), put("b", "\x01b", 0), put("c", "\x01c", 7)))
	m.Put(2, waits(inner([]uint64{4, 5}, "f"), 0, 10, put("c", "\x01C", 0), put("d", "\x02d", 0), put("e", "\x01E", 8)))
	m.Put(3, inner([]uint64{6}))
	m.Put(4, api.Node{Leaf: true, Entries: []api.Entry{has("a", "\x01a"), has("e", "\x01e")}})
	m.Put(5, api.Node{Leaf: true, Entries: []api.Entry{has("f", "\x01f")}})
	m.Put(6, api.Node{Leaf: true, Entries: []api.Entry{has("m", "\x01m")}})
	want := map[uint64]string{
		0: "\x02ag \x01b \x02Cg \x02d \x02eg \x02fg \x01m",
		7: "\x02ag \x01b \x01c \x02d \x02eg \x02fg \x01m",
		8: "\x02ag \x01b \x02Cg \x02d \x02Eg \x02fg \x01m",
	}
	for txn := range want {
		var got []string
		for _, p := range gathers(opens(t, m, 1, all, txn).Next) {
			got = append(got, p.Val)
		}
		if strings.Join(got, " ") != want[txn] {
			t.Errorf("by %d: %q, want %q", txn, got, want[txn])
		}
	}
}

// TestOrderOfHeights asks for what is above to be taken as younger: it has a greater Seq, or the same.
func TestOrderOfHeights(t *testing.T) {
	for _, seqs := range [][3]uint64{{30, 20, 10}, {10, 10, 10}, {11, 10, 10}, {11, 11, 10}, {math.MaxUint64, math.MaxUint64, 0}} {
		m := tree.NewMem()
		for depth := range 3 {
			id := uint64(depth + 1)
			m.Put(id, waits(inner([]uint64{id + 1}), 0, seqs[depth], put("a", fmt.Sprint(depth), 0)))
		}
		m.Put(4, leafOf("a"))
		if !tree.Sound(m, handShape, 1) {
			t.Fatalf("%v isn't sound", seqs)
		}
		if p, _ := opens(t, m, 1, all, 0).Next(); p.Val != "0" {
			t.Errorf("%v: %v", seqs, p)
		}
		if p, _ := opens(t, m, 2, all, 0).Next(); p.Val != "1" {
			t.Errorf("%v, from below the root: %v", seqs, p)
		}
	}
}

func TestMerge(t *testing.T) {
	r := rand.New(rand.NewSource(1))
	for range 3000 {
		var above [][]api.Msg
		var want []api.Msg
		for depth := range r.Intn(6) {
			var l []api.Msg
			seq := uint64(r.Intn(9))
			for range r.Intn(7) {
				l = append(l, api.Msg{Seq: seq, Off: depth})
				seq += 1 + uint64(r.Intn(5))
			}
			above = append(above, l)
			want = append(want, l...)
		}
		slices.SortFunc(want, func(a, b api.Msg) int {
			if a.Seq != b.Seq {
				return int(a.Seq) - int(b.Seq)
			}
			return b.Off - a.Off
		})
		was := fmt.Sprint(above)
		if got := merge(above); !slices.Equal(got, want) || fmt.Sprint(above) != was {
			t.Fatalf("merge of %s: %v, want %v; they are %v now", was, got, want, above)
		}
	}
}

// P12.4

func TestChangesNothing(t *testing.T) {
	for seed, sh := range shapes {
		r := rand.New(rand.NewSource(int64(seed)))
		g := newGrown(t, sh)
		var keys []string
		for range 200 {
			key := name(r.Intn(50))
			keys = append(keys, key)
			g.inject(t, chance(r, key))
		}
		for range 5 {
			s := freeze(t, g, g.root)
			was := s.tell()
			for txn := range uint64(3) {
				for _, span := range []api.Span{all, {Lo: name(9), Hi: name(30)}} {
					c := opens(t, s, g.root, span, txn)
					wander(t, r, c, &plain{pairs: g.held.pairs(span, txn)}, keys, 200)
				}
			}
			if s.tell() != was {
				t.Fatalf("%v: the nodes were\n%sand are\n%s", sh, was, s.tell())
			}
			g.flush(2)
		}
	}
}

// TestNeedsALeafAtATime asks a cursor for no more nodes than the ways to the leaves of its span have, and to keep no more than a leaf.
func TestNeedsALeafAtATime(t *testing.T) {
	for _, sh := range shapes {
		g := newGrown(t, sh)
		for at := range 1000 {
			g.inject(t, put(name(at*7%1000), "v", 0))
		}
		g.flush(-1)
		s := freeze(t, g, g.root)
		high := height(s, g.root)
		// costs asks for as many nodes at most as so many ways from the root to a leaf have.
		costs := func(ways int, what string, act func()) {
			t.Helper()
			s.gets = 0
			act()
			if s.gets > ways*high {
				t.Errorf("%v: %s asks for %d nodes; the way to a leaf has %d", sh, what, s.gets, high)
			}
		}
		var c *Cursor
		costs(2, "Open", func() {
			c = opens(t, s, g.root, all, 0)
			nexts(t, c, name(0))
		})
		for _, step := range []func() (api.Pair, bool){c.Next, c.Prev} {
			costs(s.leaves(), "a walk", func() {
				for _, ok := step(); ok; _, ok = step() {
					if len(c.here.pairs) > sh.Leaf {
						t.Fatalf("%v: it keeps %d pairs", sh, len(c.here.pairs))
					}
				}
			})
		}
		// Three pairs stand in two leaves or three.
		costs(4, "Open of three pairs", func() {
			c = opens(t, s, g.root, api.Span{Lo: name(500), Hi: name(503)}, 0)
			nexts(t, c, "k00500 k00501 k00502 - -")
		})
		costs(4, "Seek ahead of three pairs", func() {
			c.Seek(name(0))
			prevs(t, c, "- -")
			nexts(t, c, "k00500 k00501 k00502 - -")
		})
		costs(4, "Seek behind three pairs", func() {
			c.Seek(name(900))
			nexts(t, c, "- -")
			prevs(t, c, "k00502 k00501 k00500 - -")
		})
		costs(4, "End of three pairs", func() {
			c.End()
			prevs(t, c, "k00502 k00501 k00500 - -")
		})
	}
}

// Beyond the promises of the chapter

// dying is a store that has no node any more when it was asked some times.
type dying struct {
	*still
	left int
}

func (d *dying) Get(id uint64) (api.Node, bool) {
	if d.left--; d.left < 0 {
		return api.Node{}, false
	}
	return d.still.Get(id)
}

// TestMissingNodes asks calls to end all the same, where nodes are missing.
func TestMissingNodes(t *testing.T) {
	for _, sh := range shapes {
		g := newGrown(t, sh)
		for at := range 60 {
			g.inject(t, put(name(at*7%60), "v", uint64(at%2)))
		}
		s := freeze(t, g, g.root)
		for left := 1; left < 80; left++ {
			for _, span := range []api.Span{all, {Lo: name(5), Hi: name(50)}} {
				d := &dying{s, left}
				c := opens(t, d, g.root, span, 0)
				for range 2 {
					for _, step := range []func() (api.Pair, bool){c.Next, c.Prev} {
						if l := gathers(step); len(l) > 60 {
							t.Fatalf("%v: %d pairs", sh, len(l))
						}
					}
					c.Seek(name(20))
					c.End()
				}
			}
		}
		for id := range s.nodes {
			if id == g.root {
				continue
			}
			part := freeze(t, g, g.root)
			delete(part.nodes, id)
			c := opens(t, part, g.root, all, 0)
			l := gathers(c.Next)
			back := gathers(c.Prev)
			slices.Reverse(back)
			if !slices.Equal(l, back) || len(l) > 60 {
				t.Fatalf("%v: %v and %v", sh, l, back)
			}
		}
	}
}

// texts answers all texts of a store's nodes.
func (s *still) texts() []string {
	var l []string
	for _, n := range s.nodes {
		l = append(l, n.Pivots...)
		for _, e := range n.Entries {
			l = append(l, e.Key, e.Val, e.NewVal)
		}
		for _, m := range slices.Concat(n.Bufs...) {
			l = append(l, m.Key, m.Val)
		}
	}
	return l
}

func TestAnswersAreNewMemory(t *testing.T) {
	for _, sh := range shapes {
		g := newGrown(t, sh)
		for at := range 60 {
			g.inject(t, put(name(at%40), fmt.Sprint("v", at), uint64(at%2)))
		}
		s := freeze(t, g, g.root)
		span := api.Span{Lo: name(3), Hi: name(33)}
		seen := map[*byte]struct{}{}
		for _, text := range append(s.texts(), span.Lo, span.Hi) {
			if text != "" {
				seen[unsafe.StringData(text)] = struct{}{}
			}
		}
		for txn := range uint64(2) {
			c := opens(t, s, g.root, span, txn)
			for range 2 {
				for _, p := range append(gathers(c.Next), gathers(c.Prev)...) {
					for _, text := range []string{p.Key, p.Val} {
						if _, twice := seen[unsafe.StringData(text)]; twice {
							t.Fatalf("%v: %q shares memory", sh, text)
						}
						seen[unsafe.StringData(text)] = struct{}{}
					}
				}
			}
			if kept := c.span; unsafe.StringData(kept.Lo) == unsafe.StringData(span.Lo) || unsafe.StringData(kept.Hi) == unsafe.StringData(span.Hi) {
				t.Error("the span that was handed in is kept")
			}
		}
	}
}
