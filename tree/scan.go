package tree

import (
	"container/heap"
	"slices"
	"strings"

	"silt/api"
)

// Scan tells all items, by rising keys, of keys that are not less than from, and less than to, unless this is empty.
func (t *Tree) Scan(from, to string) []api.Item {
	var items []api.Item
	key, s := "", state{}
	way := scan{from, to, places{{unopened: t.root}}}
	for c, ok := way.next(); ok; c, ok = way.next() {
		if c.Key != key {
			items = s.appendItem(items, key)
			key, s = c.Key, state{}
		}
		s = s.after(c)
	}
	return s.appendItem(items, key)
}

// scan goes through the changes of which the items in a range of keys come: by rising keys, of each key the older ones ahead. An item of a leaf counts as the oldest change, which put it there.
type scan struct {
	from, to string
	places   places
}

// place is where a scan finds what is next: a node that is still to be opened, or what is left of the changes of a branch, or of the items of a leaf.
type place struct {
	key      string // of what is next; of a node not opened yet, where it begins
	level    int    // how far below the root it is
	unopened *node
	changes  []api.Change
}

// next takes the next change, if there is one.
func (s *scan) next() (c api.Change, ok bool) {
	for len(s.places) > 0 {
		p := heap.Pop(&s.places).(*place)
		if s.to != "" && p.key >= s.to {
			break
		}
		if p.unopened == nil {
			s.lay(p.level, p.changes[1:])
			return p.changes[0], true
		}
		s.open(p)
	}
	return api.Change{}, false
}

// lay makes a place of changes, if there are any.
func (s *scan) lay(level int, changes []api.Change) {
	if len(changes) > 0 {
		heap.Push(&s.places, &place{key: changes[0].Key, level: level, changes: changes})
	}
}

// open makes places of what is in a node, but for what is ahead of the range.
func (s *scan) open(p *place) {
	n := p.unopened
	for _, child := range n.parts[n.find(s.from):] {
		heap.Push(&s.places, &place{key: child.from, level: p.level + 1, unopened: child.node})
	}
	s.lay(p.level, n.changesFrom(s.from))
}

// changesFrom tells the changes in a node in the order of a scan, of keys that are not less than from.
func (n *node) changesFrom(from string) []api.Change {
	var changes []api.Change
	for _, item := range n.items {
		changes = append(changes, api.Change{Kind: api.Put, Key: item.Key, Value: item.Value})
	}
	changes = append(changes, n.changes...)
	changes = slices.DeleteFunc(changes, func(c api.Change) bool { return c.Key < from })
	slices.SortStableFunc(changes, func(a, b api.Change) int { return strings.Compare(a.Key, b.Key) })
	return changes
}

// places is a heap: where a scan goes on comes first.
type places []*place

func (p places) Len() int { return len(p) }

func (p places) Less(i, j int) bool {
	a, b := p[i], p[j]
	if a.key != b.key {
		return a.key < b.key
	}
	return a.level > b.level // the further below, the older; so a node is opened ahead of newer changes
}

func (p places) Swap(i, j int) { p[i], p[j] = p[j], p[i] }

func (p *places) Push(x any) { *p = append(*p, x.(*place)) }

func (p *places) Pop() any {
	last := len(*p) - 1
	x := (*p)[last]
	*p = (*p)[:last]
	return x
}
