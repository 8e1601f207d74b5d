package forest

import (
	"granary/api"
	"granary/block"
	"granary/disk"
	"granary/extent"
	"granary/node"
	"granary/pool"
)

// store keeps the nodes of all trees: some of them in memory, the others in blocks. It is a tree's store, and the back of its own pool.
type store struct {
	disk   *disk.Disk
	space  *extent.Space
	pool   *pool.Pool
	mount  uint32
	blocks uint32            // how many blocks this mount has begun to write
	last   uint64            // the node's number that was given last
	nodes  map[uint64]*place // where each node lies; nil: as it is now it is in memory alone
	draft  *draft            // the checkpoint on its way; nil: there is none
	down   bool              // the power was gone once
}

// place is where a block lies. Who needs it holds it; when nobody does any more, its sectors are free.
type place struct {
	start, count int
	block        uint64
	holders      int
}

// newStore answers a store without nodes on a disk of this setup.
func newStore(d *disk.Disk, c api.Setup, mount uint32) *store {
	s := &store{disk: d, mount: mount, nodes: map[uint64]*place{}}
	// The setup is right: so no error is answered.
	s.space, _ = extent.New(ringStart+c.Log, c.Sectors)
	s.pool, _ = pool.New(s, c.Cache)
	return s
}

// Get answers a node; false: there is none.
func (s *store) Get(id uint64) (api.Node, bool) {
	b, errno := s.pool.Get(id)
	if errno != api.OK {
		return api.Node{}, false
	}
	n, errno := node.Decode(b)
	return n, errno == api.OK
}

// Put keeps the node as it is now.
func (s *store) Put(id uint64, n api.Node) {
	// Nodes of trees are right, and those of a right setup's shape short enough.
	b, errno := node.Encode(n)
	if errno != api.OK {
		return
	}
	s.leave(id)
	s.nodes[id] = nil
	s.pool.Put(id, b)
}

// New answers a number that no node has, or had since the mount.
func (s *store) New() uint64 {
	s.last++
	return s.last
}

// Drop keeps a node no longer.
func (s *store) Drop(id uint64) {
	s.leave(id)
	delete(s.nodes, id)
	s.pool.Drop(id)
}

// Load answers the bytes of a node that isn't in memory; ErrNone, ErrBad.
func (s *store) Load(id uint64) ([]byte, api.Errno) {
	p := s.nodes[id]
	if p == nil {
		return nil, api.ErrNone
	}
	return block.Read(s.disk, p.start, p.block)
}

// Save writes a node to a new place; ErrFull, ErrDown.
func (s *store) Save(id uint64, b []byte) api.Errno {
	p, errno := s.write(b)
	if errno != api.OK {
		return errno
	}
	s.nodes[id] = p
	if s.draft.awaits(id) {
		s.draft.places[id] = p.hold()
	}
	return api.OK
}

// leave lets go of what a node is on the disk and, if the checkpoint on its way still needs it, keeps it for that one.
func (s *store) leave(id uint64) {
	if s.draft.awaits(id) {
		if b, errno := s.pool.Get(id); errno == api.OK {
			s.draft.copies[id] = b
		}
	}
	s.release(s.nodes[id])
}

// write lays a block over sectors that nobody needs, and answers its place, which the asker holds; ErrFull, ErrDown.
func (s *store) write(b []byte) (*place, api.Errno) {
	count := block.Count(len(b))
	start, errno := s.space.Alloc(count)
	if errno != api.OK {
		return nil, errno
	}
	s.blocks++
	// No two mounts have the same number, so no two blocks have.
	p := &place{start: start, count: count, block: uint64(s.mount)<<32 | uint64(s.blocks), holders: 1}
	if errno := block.Write(s.disk, start, p.block, b); errno != api.OK {
		s.down = true
		return nil, errno
	}
	return p, api.OK
}

// hold lets one more hold a place.
func (p *place) hold() *place {
	p.holders++
	return p
}

// release lets one less hold a place, if it is one.
func (s *store) release(p *place) {
	if p == nil {
		return
	}
	p.holders--
	if p.holders == 0 {
		s.space.Free(p.start, p.count)
	}
}

// hole answers how many sectors the longest free stretch has.
func (s *store) hole() int {
	most := 0
	for _, h := range s.space.Holes() {
		most = max(most, h.Len)
	}
	return most
}
