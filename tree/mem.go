package tree

import (
	"slices"

	"granary/api"
)

// Mem is a store in memory.
type Mem struct {
	nodes map[uint64]api.Node
	last  uint64 // what New answered last
}

// NewMem answers a store without nodes.
func NewMem() *Mem { return &Mem{nodes: map[uint64]api.Node{}} }

// Get answers a node, which its asker may change; false: there is none.
func (m *Mem) Get(id uint64) (api.Node, bool) {
	n, ok := m.nodes[id]
	return clone(n), ok
}

// Put keeps the node as it is now.
func (m *Mem) Put(id uint64, n api.Node) { m.nodes[id] = clone(n) }

// New answers 1, 2, 3 and so on, but none that a node has already, put there by hand.
func (m *Mem) New() uint64 {
	for there := true; there; _, there = m.nodes[m.last] {
		m.last++
	}
	return m.last
}

// Drop keeps a node no longer.
func (m *Mem) Drop(id uint64) { delete(m.nodes, id) }

// Count answers how many nodes it has.
func (m *Mem) Count() int { return len(m.nodes) }

// clone answers the node in memory of its own.
func clone(n api.Node) api.Node {
	n.Entries, n.Pivots, n.Kids = slices.Clone(n.Entries), slices.Clone(n.Pivots), slices.Clone(n.Kids)
	n.Bufs = slices.Clone(n.Bufs)
	for kid, buf := range n.Bufs {
		n.Bufs[kid] = slices.Clone(buf)
	}
	return n
}
