package cursor

import (
	"container/heap"

	"granary/api"
)

// queue is what is left, at least one message, of what waits in a node above a leaf, the oldest first.
type queue struct {
	messages []api.Msg
	depth    int // that of the root is 0
}

// queues is a heap: at its front stands the queue with the oldest message.
type queues []queue

// Len answers how many queues there are.
func (q queues) Len() int { return len(q) }

// Less tells whether the first message of one queue is older than that of another; of two that are as young the deeper one is, as messages come from above.
func (q queues) Less(a, b int) bool {
	x, y := q[a].messages[0].Seq, q[b].messages[0].Seq
	return x < y || x == y && q[a].depth > q[b].depth
}

// Swap changes the places of two queues.
func (q queues) Swap(a, b int) { q[a], q[b] = q[b], q[a] }

// Push lays a queue behind the others.
func (q *queues) Push(x any) { *q = append(*q, x.(queue)) }

// Pop takes the last queue away.
func (q *queues) Pop() any {
	last := len(*q) - 1
	x := (*q)[last]
	*q = (*q)[:last]
	return x
}

// merge answers what waits in the nodes above a leaf, the root's first, as one list, the oldest message first.
func merge(above [][]api.Msg) []api.Msg {
	h := &queues{}
	for depth, messages := range above {
		if len(messages) > 0 {
			heap.Push(h, queue{messages, depth})
		}
	}
	var l []api.Msg
	for h.Len() > 0 {
		q := heap.Pop(h).(queue)
		l = append(l, q.messages[0])
		q.messages = q.messages[1:]
		if len(q.messages) > 0 {
			heap.Push(h, q)
		}
	}
	return l
}
