package tree

import (
	"slices"

	"silt/api"
	"silt/giveup"
	"silt/pages"
)

// maxLevels is how many levels a tree may have that stays as its image is. One that branched on each of them would have more leaves than there can be.
const maxLevels = 64

// Load makes the tree that an image says, and gives up if this is not right.
func Load(image []string) *Tree {
	l := loader{image, make([]bool, len(image))}
	t := New()
	level := []task{{node: t.root}}
	levels := 0
	for ; len(level) > 0; levels++ {
		level = l.readLevel(level)
	}
	giveup.Unless(!slices.Contains(l.reached, false))
	if levels > maxLevels {
		return t.anew()
	}
	return t
}

// anew makes a tree that says the same, and is no deeper than its items need, so that no call has a long way down.
func (t *Tree) anew() *Tree {
	fresh := New()
	for _, item := range t.Scan("", "") {
		fresh.Make(api.Change{Kind: api.Put, Key: item.Key, Value: item.Value})
	}
	return fresh
}

// loader reads the pages of an image. It goes level by level rather than by calls within calls, for no depth may be too great for it.
type loader struct {
	image   []string
	reached []bool // of each page
}

// task is a page to be read: its number, the node to be filled, and the bounds of its keys. They are not less than from, and less than to, unless this is empty.
type task struct {
	number   int
	node     *node
	from, to string
}

// readLevel reads all pages of a level, and tells those of the level below.
func (l loader) readLevel(level []task) []task {
	var below []task
	leaves := 0
	for _, t := range level {
		n := l.read(t.number)
		giveup.Unless(t.holds(n))
		if n.Kind == api.Leaf {
			leaves++
		}
		below = append(below, t.fill(n)...)
	}
	giveup.Unless(leaves == 0 || leaves == len(level))
	return below
}

// read reads a page that must be there and not have been reached.
func (l loader) read(number int) api.Node {
	giveup.Unless(number < len(l.image) && !l.reached[number])
	l.reached[number] = true
	return pages.Read(l.image[number])
}

// holds tells whether all keys of a page are within its bounds. These are the closest: they lie themselves within those of the pages above.
func (t task) holds(n api.Node) bool {
	for _, item := range n.Items {
		if !t.has(item.Key) {
			return false
		}
	}
	for _, c := range n.Changes {
		if !t.has(c.Key) {
			return false
		}
	}
	return !slices.ContainsFunc(n.Pivots, func(pivot string) bool { return !t.has(pivot) })
}

func (t task) has(key string) bool { return t.from <= key && (t.to == "" || key < t.to) }

// fill makes the task's node what its page says, and tells the tasks of its children.
func (t task) fill(n api.Node) []task {
	t.node.items, t.node.changes = n.Items, n.Changes
	var below []task
	for i, number := range n.Children {
		child := task{number, &node{}, t.from, t.to}
		if i > 0 {
			child.from = n.Pivots[i-1]
		}
		if i < len(n.Pivots) {
			child.to = n.Pivots[i]
		}
		if child.hasRoom() {
			t.node.parts = append(t.node.parts, part{child.from, child.node})
		}
		below = append(below, child)
	}
	return below
}

// hasRoom tells whether a key can belong to a page. None does if its branch begins at the pivot behind it: the tree does without such a page.
func (t task) hasRoom() bool { return t.to == "" || t.from < t.to }
