package tree

import (
	"fmt"
	"math/rand"
	"slices"
	"testing"

	"silt/api"
)

func put(key, value string) api.Change { return api.Change{Kind: api.Put, Key: key, Value: value} }

func remove(key string) api.Change { return api.Change{Kind: api.Delete, Key: key} }

// filled makes a tree of n items, put there in no order.
func filled(n int) *Tree {
	t := New()
	for _, i := range rand.New(rand.NewSource(1)).Perm(n) {
		t.Make(put(fmt.Sprintf("%06d", i), "v"))
	}
	return t
}

// A change is laid down high up, and sinks in company: it seldom touches many pages.
func TestChangesTouchFewPages(t *testing.T) {
	tree := filled(5000)
	r := rand.New(rand.NewSource(2))
	const changes = 300
	few, rootAlone := 0, 0
	before := tree.Image()
	for i := range changes {
		tree.Make(put(fmt.Sprintf("%06d", r.Intn(5000)), fmt.Sprint(i)))
		after := tree.Image()
		n := differing(before, after)
		if n <= 10 {
			few++
		}
		if n == 1 {
			rootAlone++
		}
		before = after
	}
	if few < changes*9/10 || rootAlone < changes/2 {
		t.Errorf("of %d changes %d touched few pages, %d one alone", changes, few, rootAlone)
	}
}

// differing tells how many pages of two images are not the same.
func differing(a, b []string) int {
	n := max(len(a), len(b)) - min(len(a), len(b))
	for i := range min(len(a), len(b)) {
		if a[i] != b[i] {
			n++
		}
	}
	return n
}

// What is taken away leaves no pages for good.
func TestEmptiedTreesAreSmall(t *testing.T) {
	tree := filled(5000)
	before := len(tree.Image())
	for _, i := range rand.New(rand.NewSource(3)).Perm(5000) {
		tree.Make(remove(fmt.Sprintf("%06d", i)))
	}
	if after := len(tree.Image()); after > before/10 {
		t.Errorf("a tree of %d pages has %d when all is taken away", before, after)
	}
	if items := tree.Scan("", ""); len(items) > 0 {
		t.Errorf("what was taken away is there: %v", items)
	}
}

// levels tells how many levels a tree has.
func levels(t *Tree) int {
	n := 1
	for at := t.root; !at.isLeaf(); at = at.parts[0].node {
		n++
	}
	return n
}

// A tree that was deep comes to one leaf again, if it has little to say.
func TestTreesGetLower(t *testing.T) {
	tree := filled(5000)
	if n := levels(tree); n < 4 {
		t.Errorf("a tree of 5000 items has %d levels", n)
	}
	for range 20 {
		for i := range 5000 {
			tree.Make(remove(fmt.Sprintf("%06d", i)))
		}
	}
	if n := levels(tree); n > 2 {
		t.Errorf("a tree of no items has %d levels", n)
	}
}

// A scan of few keys does not go through all pages.
func TestScansOpenFewPages(t *testing.T) {
	tree := filled(5000)
	all := testing.AllocsPerRun(1, func() { tree.Scan("", "") })
	for _, c := range []struct{ from, to string }{{"", "000010"}, {"002500", "002510"}, {"004990", ""}} {
		few := testing.AllocsPerRun(1, func() { tree.Scan(c.from, c.to) })
		if few > all/30 {
			t.Errorf("Scan(%q, %q) takes memory %v times, of all %v times", c.from, c.to, few, all)
		}
	}
}

// Items that come and go at the ends of a tree do not make it grow.
func TestWindowsStaySmall(t *testing.T) {
	tree := New()
	for i := range 20000 {
		tree.Make(put(fmt.Sprintf("%06d", i), "v"))
		if i >= 100 {
			tree.Make(remove(fmt.Sprintf("%06d", i-100)))
		}
	}
	if pages := len(tree.Image()); pages > 60 {
		t.Errorf("a tree of 100 items has %d pages", pages)
	}
	if items := tree.Scan("", ""); len(items) != 100 {
		t.Errorf("%d items, want 100", len(items))
	}
}

// Changes that all come to one leaf at a time still find room for all items.
func TestTakeOfManyChanges(t *testing.T) {
	for _, n := range []int{0, 1, 16, 17, 32, 33, 64, 65, 300} {
		var changes []api.Change
		for i := range n {
			changes = append(changes, put(fmt.Sprintf("%03d", i), "v"))
		}
		leaf := &node{}
		leaf.take(changes)
		parts := cut(part{node: leaf})
		items := 0
		for i, p := range parts {
			items += len(p.node.items)
			if len(p.node.items) > api.MaxItems || n > 0 && len(p.node.items) < min(n, api.MaxItems/2) {
				t.Errorf("one of the leaves of %d items has %d", n, len(p.node.items))
			}
			if i > 0 && p.from != p.node.items[0].Key {
				t.Errorf("the pivot ahead of %q is %q", p.node.items[0].Key, p.from)
			}
		}
		if items != n || len(parts) != max(1, (n+15)/16) {
			t.Errorf("%d items come to %d leaves with %d", n, len(parts), items)
		}
	}
}

func TestShares(t *testing.T) {
	for n := range 40 {
		list := make([]int, n)
		for i := range list {
			list[i] = i
		}
		got := shares(list, 4)
		if !slices.Equal(slices.Concat(got...), list) {
			t.Errorf("the shares of %d are %v", n, got)
		}
		for i, share := range got {
			if len(share) > 4 || len(got[0])-len(share) > 1 || i > 0 && len(share) > len(got[i-1]) {
				t.Errorf("the shares of %d are %v", n, got)
			}
		}
	}
}
