// Package tree keeps keys and values in a tree of leaves and branches. A change is laid down in the root, and sinks to the leaves in company, so that it seldom touches many of them.
package tree

import (
	"slices"
	"strings"

	"silt/api"
)

// Tree is a tree. Its calls are to be made one at a time.
type Tree struct {
	root *node
}

// New makes an empty tree.
func New() *Tree { return &Tree{root: &node{}} }

// Make makes what is a change.
func (t *Tree) Make(c api.Change) {
	// The texts are new memory, so that nobody keeps what was handed in.
	c.Key, c.Value = strings.Clone(c.Key), strings.Clone(c.Value)
	t.root.take([]api.Change{c})
	parts := cut(part{node: t.root})
	for len(parts) > 1 {
		parts = cut(part{node: &node{parts: parts}})
	}
	t.root = parts[0].node
	for t.root.isIdle() {
		t.root = t.root.parts[0].node
	}
}

// Get tells a key's value, if it has one.
func (t *Tree) Get(key string) (value string, ok bool) {
	var way []*node
	n := t.root
	for !n.isLeaf() {
		way = append(way, n)
		n = n.parts[n.find(key)].node
	}
	s := n.stateOf(key)
	for _, above := range slices.Backward(way) {
		for _, c := range above.changes {
			if c.Key == key {
				s = s.after(c)
			}
		}
	}
	return s.value, s.there
}
