package tree

import (
	"cmp"
	"slices"

	"granary/api"
	"granary/msg"
	"granary/node"
)

// tree is a store and the shape of the tree in it that is changed.
type tree struct {
	Store
	shape api.Shape
}

// pieces are nodes that stand side by side, and the pivots between them.
type pieces struct {
	nodes  []api.Node
	pivots []string
}

// change has the pieces that come into the place of a node's kids from one on, below another; none, if nothing is left of them.
type change struct {
	from, to int
	pieces
}

// pour answers what becomes of a node by messages, which are younger than all that waits in it and below.
func (t tree) pour(n api.Node, l []api.Msg) pieces {
	take(&n, l)
	for node.Waiting(n) > t.shape.Buf {
		t.sink(&n)
	}
	return t.cut(n)
}

// take applies messages to a leaf, or lets them wait in an inner node, each for its kid, a Grow for all of them.
func take(n *api.Node, l []api.Msg) {
	if n.Leaf {
		n.Entries = after(n.Entries, l)
		return
	}
	for _, m := range l {
		if m.Kind != api.MsgGrow {
			kid := node.Route(*n, m.Key)
			n.Bufs[kid] = append(n.Bufs[kid], m)
			continue
		}
		for kid := range n.Bufs {
			n.Bufs[kid] = append(n.Bufs[kid], m)
		}
	}
}

// after answers what messages, the oldest one first, make of a leaf's entries, which it changes.
func after(entries []api.Entry, l []api.Msg) []api.Entry {
	for _, m := range l {
		if m.Kind == api.MsgGrow {
			// Of an entry that isn't there a Grow makes nothing.
			for at, e := range entries {
				entries[at] = msg.Apply(e, m)
			}
			continue
		}
		at, there := find(entries, m.Key)
		if !there {
			entries = slices.Insert(entries, at, api.Entry{Key: m.Key})
		}
		entries[at] = msg.Apply(entries[at], m)
		if msg.Gone(entries[at]) {
			entries = slices.Delete(entries, at, at+1)
		}
	}
	return entries
}

// find answers where the entry of a key stands, or would stand, and whether it is there.
func find(entries []api.Entry, key string) (int, bool) {
	return slices.BinarySearchFunc(entries, key, func(e api.Entry, key string) int { return cmp.Compare(e.Key, key) })
}

// sink pours all that waits for one kid into it: that kid for which the most waits, as one way down is then worth the most.
func (t tree) sink(n *api.Node) {
	kid := 0
	for at, buf := range n.Bufs {
		if len(buf) > len(n.Bufs[kid]) {
			kid = at
		}
	}
	l := n.Bufs[kid]
	n.Bufs[kid] = nil
	below := load(t, n.Kids[kid])
	was := size(below)
	t.replace(n, kid, was, t.pour(below, l))
}

// ease lets some messages come down from a node at or below n above which none wait: so its kids may change, and no message is left behind that was for them. It answers whether any waited, and whether n is another node by that.
func (t tree) ease(n *api.Node) (waited, changed bool) {
	if node.Waiting(*n) > 0 {
		t.sink(n)
		return true, true
	}
	for kid, id := range n.Kids {
		below := load(t, id)
		if below.Leaf {
			// All leaves are equally far from the root: so the other kids are leaves too.
			return false, false
		}
		was := size(below)
		waited, changed := t.ease(&below)
		if changed {
			changed = t.replace(n, kid, was, t.cut(below))
		}
		if waited {
			return true, changed
		}
	}
	return false, false
}

// replace puts pieces into the place of a kid for which nothing waits, and whose size was was, and tells whether n is another node by that.
func (t tree) replace(n *api.Node, kid, was int, p pieces) bool {
	c := change{kid, kid + 1, p}
	if len(p.nodes) != 1 || size(p.nodes[0]) < was {
		// If a kid that is split or has shrunk left its neighbours as they are, trees of few kids a node would grow as high as they have leaves.
		c = t.join(n, c, c.from-1)
		c = t.join(n, c, c.to)
	}
	return t.carryOut(n, c)
}

// join takes a kid, if it is there, that is a neighbour of a change's into the change, if there are fewer nodes by that; what waits for it comes along.
func (t tree) join(n *api.Node, c change, kid int) change {
	if kid < 0 || kid >= len(n.Kids) || len(c.nodes) == 0 {
		return c
	}
	below := load(t, n.Kids[kid])
	sum := size(below)
	for _, piece := range c.nodes {
		sum += size(piece)
	}
	// Kids are of one kind, but where one is missing.
	if sum > t.most(below)*len(c.nodes) || below.Leaf != c.nodes[0].Leaf {
		return c
	}
	take(&below, n.Bufs[kid])
	if kid < c.from {
		c.nodes, c.pivots = slices.Insert(c.nodes, 0, below), slices.Insert(c.pivots, 0, n.Pivots[kid])
		c.from = kid
	} else {
		c.nodes, c.pivots = append(c.nodes, below), append(c.pivots, n.Pivots[kid-1])
		c.to = kid + 1
	}
	c.pieces = t.pour(glue(c.pieces), nil)
	return c
}

// carryOut puts the pieces of a change into their place, in which nothing waits from now on, and tells whether n is another node by that.
func (t tree) carryOut(n *api.Node, c change) bool {
	ids := t.keep(n.Kids[c.from:c.to], c.nodes)
	if len(ids) == 1 && c.to-c.from == 1 {
		return false
	}
	if len(ids) > 0 {
		n.Pivots = slices.Replace(n.Pivots, c.from, c.to-1, c.pivots...)
	} else {
		// A neighbour, if there is one, has the keys from now on, of which none is there and none waits.
		pivot := max(c.from-1, 0)
		n.Pivots = slices.Delete(n.Pivots, pivot, min(pivot+c.to-c.from, len(n.Pivots)))
	}
	n.Kids = slices.Replace(n.Kids, c.from, c.to, ids...)
	n.Bufs = slices.Replace(n.Bufs, c.from, c.to, make([][]api.Msg, len(ids))...)
	return true
}

// keep puts nodes into the store in the place of others, under their numbers as far as these reach, and answers the nodes' numbers.
func (t tree) keep(old []uint64, l []api.Node) []uint64 {
	var ids []uint64
	for at, n := range l {
		if at < len(old) {
			ids = append(ids, old[at])
		} else {
			ids = append(ids, t.New())
		}
		t.Put(ids[at], n)
	}
	for _, id := range old[min(len(l), len(old)):] {
		t.Drop(id)
	}
	return ids
}

// crown keeps the pieces of a root below one root again, and answers it.
func (t tree) crown(root uint64, p pieces) uint64 {
	if len(p.nodes) == 0 {
		p.nodes = []api.Node{emptyLeaf()}
	}
	for len(p.nodes) > 1 {
		ids := t.keep([]uint64{root}, p.nodes)
		root = t.New()
		p = t.cut(api.Node{Kids: ids, Pivots: p.pivots, Bufs: make([][]api.Msg, len(ids))})
	}
	n := p.nodes[0]
	t.Put(root, n)
	for isIdle(n) {
		t.Drop(root)
		root = n.Kids[0]
		n = load(t, root)
	}
	return root
}

// isIdle tells whether a root does nothing but stand above its kid.
func isIdle(n api.Node) bool { return len(n.Kids) == 1 && node.Waiting(n) == 0 }

// size answers how many entries a leaf has, or how many kids an inner node.
func size(n api.Node) int { return len(n.Entries) + len(n.Kids) }

// most answers the greatest size that a node like this one may have.
func (t tree) most(n api.Node) int {
	if n.Leaf {
		return t.shape.Leaf
	}
	return t.shape.Fan
}

// cut answers a node of any size in as few pieces as may be, all of them about as great; none, if nothing is in it.
func (t tree) cut(n api.Node) pieces {
	var p pieces
	most := t.most(n)
	parts := (size(n) + most - 1) / most
	for part := range parts {
		from, to := part*size(n)/parts, (part+1)*size(n)/parts
		if part > 0 {
			p.pivots = append(p.pivots, border(n, from))
		}
		p.nodes = append(p.nodes, section(n, from, to))
	}
	return p
}

// border answers the pivot ahead of an entry of a leaf, or of a kid of an inner node, that isn't the first one.
func border(n api.Node, at int) string {
	if n.Leaf {
		return n.Entries[at].Key
	}
	return n.Pivots[at-1]
}

// section answers the node with the entries, or the kids, from one on, below another.
func section(n api.Node, from, to int) api.Node {
	if n.Leaf {
		return api.Node{Leaf: true, Entries: n.Entries[from:to]}
	}
	return api.Node{Kids: n.Kids[from:to], Pivots: n.Pivots[from : to-1], Bufs: n.Bufs[from:to]}
}

// glue answers the node of which cut makes pieces like these.
func glue(p pieces) api.Node {
	u := api.Node{Leaf: p.nodes[0].Leaf}
	for at, n := range p.nodes {
		if at > 0 && !u.Leaf {
			u.Pivots = append(u.Pivots, p.pivots[at-1])
		}
		u.Entries = append(u.Entries, n.Entries...)
		u.Pivots = append(u.Pivots, n.Pivots...)
		u.Kids = append(u.Kids, n.Kids...)
		u.Bufs = append(u.Bufs, n.Bufs...)
	}
	return u
}
