package silt_test

import (
	"maps"
	"math/rand"
	"slices"
	"strconv"
	"testing"

	"silt/api"
	"silt/silt"
)

// This file says by the document's words what changes come to, when an image is right, and what it says, apart from the program's trees.

// told is what changes come to, made one by one.
type told map[string]string

func (w told) make(c api.Change) {
	switch c.Kind {
	case api.Put:
		w[c.Key] = c.Value
	case api.Delete:
		delete(w, c.Key)
	case api.Append:
		s := w[c.Key] + c.Value
		if len(s) > 16 {
			s = s[len(s)-16:]
		}
		w[c.Key] = s
	}
}

// items tells what Scan should.
func (w told) items(from, to string) []api.Item {
	var items []api.Item
	for _, key := range slices.Sorted(maps.Keys(w)) {
		if key >= from && (to == "" || key < to) {
			items = append(items, item(key, w[key]))
		}
	}
	return items
}

func checkMade(t *testing.T, tree *silt.Tree, c api.Change) {
	t.Helper()
	if e := tree.Make(c); e != api.OK {
		t.Fatalf("P6: Make(%+v) = %d", c, e)
	}
}

func checkScan(t *testing.T, tree *silt.Tree, from, to string, want []api.Item) {
	t.Helper()
	if got, e := tree.Scan(from, to); !slices.Equal(got, want) || e != api.OK {
		t.Fatalf("P6: Scan(%q, %q) = %q, %d, want %q", from, to, got, e, want)
	}
}

func checkGet(t *testing.T, tree *silt.Tree, key string, want told) {
	t.Helper()
	value, there := want[key]
	errno := api.OK
	if !there {
		errno = api.ErrNone
	}
	if got, e := tree.Get(key); got != value || e != errno {
		t.Fatalf("P6: Get(%q) = %q, %d, want %q, %d", key, got, e, value, errno)
	}
}

// checkTold holds all that a tree says against what it should.
func checkTold(t *testing.T, tree *silt.Tree, want told) {
	t.Helper()
	checkScan(t, tree, "", "", want.items("", ""))
	for key := range want {
		checkGet(t, tree, key, want)
		checkGet(t, tree, key+"\x00", want)
		checkGet(t, tree, key[:len(key)-1], want)
	}
}

// bounds are those of a page in one branch above it; an empty one is none.
type bounds struct{ from, to string }

// reading is how far the reading of an image has come.
type reading struct {
	nodes []api.Node
	ways  []int // on how many ways each page was reached
	depth int   // of the leaves; -1 while none was found
	fault string
}

// read tells an image's nodes, and what is wrong with it, if anything.
func read(image []string) reading {
	r := reading{ways: make([]int, len(image)), depth: -1}
	for i, page := range image {
		n, e := silt.Read(page)
		if e != api.OK {
			r.fault = "page " + strconv.Itoa(i) + " is none"
			return r
		}
		r.nodes = append(r.nodes, n)
	}
	r.reach(0, 0, nil)
	for i, ways := range r.ways {
		if r.fault == "" && ways != 1 {
			r.fault = "page " + strconv.Itoa(i) + " is not reached"
		}
	}
	return r
}

// reach goes to a page and on to those below it.
func (r *reading) reach(page, depth int, above []bounds) {
	if r.fault != "" {
		return
	}
	if page >= len(r.nodes) {
		r.fault = "page " + strconv.Itoa(page) + " is not there"
		return
	}
	r.ways[page]++
	if r.ways[page] > 1 {
		r.fault = "page " + strconv.Itoa(page) + " is reached twice"
		return
	}
	n := r.nodes[page]
	for _, key := range keysOf(n) {
		for _, b := range above {
			if b.from != "" && key < b.from || b.to != "" && key >= b.to {
				r.fault = "page " + strconv.Itoa(page) + " has a key that does not belong to it"
				return
			}
		}
	}
	if n.Kind == api.Leaf {
		if r.depth >= 0 && r.depth != depth {
			r.fault = "leaves are not equally far from the root"
		}
		r.depth = depth
	}
	for i, child := range n.Children {
		var b bounds
		if i > 0 {
			b.from = n.Pivots[i-1]
		}
		if i < len(n.Pivots) {
			b.to = n.Pivots[i]
		}
		r.reach(child, depth+1, append(slices.Clone(above), b))
	}
}

// keysOf tells all keys that a page names.
func keysOf(n api.Node) []string {
	keys := slices.Clone(n.Pivots)
	for _, i := range n.Items {
		keys = append(keys, i.Key)
	}
	for _, c := range n.Changes {
		keys = append(keys, c.Key)
	}
	return keys
}

// says tells what the image says.
func (r reading) says() told {
	all := told{}
	for _, n := range r.nodes {
		for _, key := range keysOf(n) {
			if value, ok := r.saysOf(key); ok {
				all[key] = value
			}
		}
	}
	return all
}

func (r reading) saysOf(key string) (string, bool) {
	one := told{}
	at := 0
	var history []api.Change // newer ones behind
	for r.nodes[at].Kind == api.Branch {
		n := r.nodes[at]
		history = append(slices.Clone(n.Changes), history...)
		child := 0
		for _, pivot := range n.Pivots {
			if pivot <= key {
				child++
			}
		}
		at = n.Children[child]
	}
	for _, i := range r.nodes[at].Items {
		if i.Key == key {
			one[key] = i.Value
		}
	}
	for _, c := range history {
		if c.Key == key {
			one.make(c)
		}
	}
	value, ok := one[key]
	return value, ok
}

// checkImage holds a tree's image against the document's words.
func checkImage(t *testing.T, image []string, want told) reading {
	t.Helper()
	r := read(image)
	if r.fault != "" {
		t.Fatalf("P7: an image is not right: %s, of %+v", r.fault, r.nodes)
	}
	if got := r.says(); !maps.Equal(got, want) {
		t.Fatalf("P7: an image says %q, want %q", got, want)
	}
	return r
}

// checkLoaded tells the tree of an image that should be right.
func checkLoaded(t *testing.T, image []string) *silt.Tree {
	t.Helper()
	tree, e := silt.Load(image)
	if tree == nil || e != api.OK {
		t.Fatalf("P7: Load of a right image of %d pages = %v, %d", len(image), tree, e)
	}
	return tree
}

func checkUnloaded(t *testing.T, what string, image []string) {
	t.Helper()
	if tree, e := silt.Load(image); tree != nil || e != api.ErrForm {
		t.Errorf("P7: Load of an image with %s = %v, %d, want ErrForm", what, tree, e)
	}
}

func remove(key string) api.Change { return api.Change{Kind: api.Delete, Key: key} }

func add(key, value string) api.Change {
	return api.Change{Kind: api.Append, Key: key, Value: value}
}

// anyChange makes a change of a key.
func anyChange(r *rand.Rand, key string) api.Change {
	switch r.Intn(3) {
	case 0:
		return remove(key)
	case 1:
		return add(key, anyBytes(r, 0, 16))
	}
	return put(key, anyBytes(r, 0, 16))
}
