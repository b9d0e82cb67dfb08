package tree

import (
	"slices"
	"strings"

	"silt/api"
)

// node is a leaf or a branch. A leaf has no parts, a branch no items.
type node struct {
	items   []api.Item
	parts   []part
	changes []api.Change
}

// part is a child and where it begins: at the pivot ahead of it, or, the first one, where its branch begins. No two parts of a branch begin at the same key, so that pivots rise.
type part struct {
	from string
	node *node
}

func (n *node) isLeaf() bool { return len(n.parts) == 0 }

// isIdle tells whether a node is a branch that its child can stand for.
func (n *node) isIdle() bool { return len(n.parts) == 1 && len(n.changes) == 0 }

// find tells the number of the part that a key belongs to.
func (n *node) find(key string) int {
	at := 0
	for at+1 < len(n.parts) && n.parts[at+1].from <= key {
		at++
	}
	return at
}

// findItem tells where among a leaf's items a key is, or would be.
func (n *node) findItem(key string) (at int, ok bool) {
	return slices.BinarySearchFunc(n.items, key, func(item api.Item, key string) int {
		return strings.Compare(item.Key, key)
	})
}

// stateOf tells what a leaf knows of a key.
func (n *node) stateOf(key string) state {
	if at, ok := n.findItem(key); ok {
		return state{n.items[at].Value, true}
	}
	return state{}
}

// take makes changes, older ones ahead, in a leaf, or lays them down in a branch. The node may have to be cut then.
func (n *node) take(changes []api.Change) {
	if n.isLeaf() {
		for _, c := range changes {
			n.change(c)
		}
		return
	}
	n.changes = append(n.changes, changes...)
	for len(n.changes) > api.MaxChanges {
		n.sink()
	}
}

// change makes a change in a leaf.
func (n *node) change(c api.Change) {
	at, ok := n.findItem(c.Key)
	s := n.stateOf(c.Key).after(c)
	switch {
	case ok && s.there:
		n.items[at].Value = s.value
	case ok:
		n.items = slices.Delete(n.items, at, at+1)
	case s.there:
		n.items = slices.Insert(n.items, at, api.Item{Key: c.Key, Value: s.value})
	}
}

// sink hands changes of a branch to the child that most of them belong to.
func (n *node) sink() {
	at := n.busiest()
	n.parts[at].node.take(n.handOut(at))
	n.join(at)
	if n.join(at - 1) {
		at--
	}
	n.parts = slices.Replace(n.parts, at, at+1, cut(n.parts[at])...)
}

// busiest tells the number of the part that most of a branch's changes belong to.
func (n *node) busiest() int {
	counts := make([]int, len(n.parts))
	for _, c := range n.changes {
		counts[n.find(c.Key)]++
	}
	return slices.Index(counts, slices.Max(counts))
}

// handOut takes the changes that belong to a part out of a branch.
func (n *node) handOut(at int) []api.Change {
	var out, kept []api.Change
	for _, c := range n.changes {
		if n.find(c.Key) == at {
			out = append(out, c)
		} else {
			kept = append(kept, c)
		}
	}
	n.changes = kept
	return out
}

// join makes one of a part and the one behind it, if there are both and they are small, and tells whether it did. Without it leaves that are emptied, and branches above them, would stay for good.
func (n *node) join(at int) bool {
	if at < 0 || at+1 >= len(n.parts) {
		return false
	}
	a, b := n.parts[at].node, n.parts[at+1].node
	if !areSmall(a, b) {
		return false
	}
	if b.isLeaf() {
		a.items = append(a.items, b.items...)
	} else {
		a.parts = append(a.parts, b.parts...)
		a.take(b.changes)
	}
	n.parts = slices.Delete(n.parts, at+1, at+2)
	return true
}

// areSmall tells whether two neighbours fill no more than three quarters of one together, so that what is joined is not cut again soon.
func areSmall(a, b *node) bool {
	return len(a.items)+len(b.items) <= api.MaxItems*3/4 && len(a.parts)+len(b.parts) <= api.MaxChildren*3/4
}

// cut tells the parts that come of one whose node may have grown too great.
func cut(p part) []part {
	n := p.node
	if len(n.items) > api.MaxItems {
		return cutLeaf(p)
	}
	if len(n.parts) > api.MaxChildren {
		return cutBranch(p)
	}
	return []part{p}
}

func cutLeaf(p part) []part {
	var parts []part
	for _, items := range shares(p.node.items, api.MaxItems) {
		parts = append(parts, part{items[0].Key, &node{items: items}})
	}
	parts[0].from = p.from
	return parts
}

func cutBranch(p part) []part {
	var parts []part
	for _, share := range shares(p.node.parts, api.MaxChildren) {
		parts = append(parts, part{share[0].from, &node{parts: share}})
	}
	above := node{parts: parts}
	for _, c := range p.node.changes {
		n := parts[above.find(c.Key)].node
		n.changes = append(n.changes, c)
	}
	return parts
}

// shares cuts a list into as few shares as may be, of at most that many each, as even as can be, greater ones ahead.
func shares[T any](list []T, most int) [][]T {
	var out [][]T
	for left := (len(list) + most - 1) / most; left > 0; left-- {
		size := (len(list) + left - 1) / left
		out = append(out, slices.Clone(list[:size]))
		list = list[size:]
	}
	return out
}
