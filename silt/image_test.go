package silt_test

import (
	"fmt"
	"math/rand"
	"slices"
	"sync"
	"testing"

	"silt/api"
	"silt/silt"
)

func TestImageOfSmallTrees(t *testing.T) {
	tree := silt.New()
	if image := tree.Image(); !slices.Equal(image, imageOf(leaf())) {
		t.Errorf("P7: Image of an empty tree = %q", image)
	}
	checkMade(t, tree, put("a", "x"))
	if image := tree.Image(); !slices.Equal(image, imageOf(leaf(item("a", "x")))) {
		t.Errorf("P7: Image of a tree of one item = %q", image)
	}
}

// The image is right after each change, and no call on it changes the tree.
func TestImageAfterEachChange(t *testing.T) {
	r := rand.New(rand.NewSource(51))
	tree, want := silt.New(), told{}
	for n := range 700 {
		c := put(fmt.Sprint(r.Intn(300)), fmt.Sprint(n))
		if n > 350 {
			c = anyChange(r, c.Key)
		}
		checkMade(t, tree, c)
		want.make(c)
		image := tree.Image()
		checkImage(t, image, want)
		if !slices.Equal(tree.Image(), image) {
			t.Fatalf("P7: the second Image is another")
		}
	}
	checkTold(t, tree, want)
}

// Trees of many items have many pages, on several levels, with changes in branches and all kinds of them.
func TestImageOfManyItems(t *testing.T) {
	r := rand.New(rand.NewSource(52))
	tree, want := silt.New(), told{}
	for range 20000 {
		c := anyChange(r, fmt.Sprintf("%05d", r.Intn(10000)))
		checkMade(t, tree, c)
		want.make(c)
	}
	got := checkImage(t, tree.Image(), want)
	changes := 0
	for _, n := range got.nodes {
		changes += len(n.Changes)
	}
	if got.depth < 3 || got.depth > 12 || len(got.nodes) < len(want)/16 || changes == 0 {
		t.Errorf("P7: the image of %d items has %d pages, %d deep, with %d changes", len(want), len(got.nodes), got.depth, changes)
	}
	checkTold(t, tree, want)
}

// A tree that is loaded says and shows the same, and both go on alike.
func TestImageOfALoadedTree(t *testing.T) {
	for tree, want := range someTrees(t) {
		image := tree.Image()
		other := checkLoaded(t, image)
		if !slices.Equal(other.Image(), image) {
			t.Errorf("P7: the image of a tree that was loaded from one of %d pages is another", len(image))
		}
		goOn(t, other, want, rand.New(rand.NewSource(53)), 300)
	}
}

// Lists that come out are new memory, their spare room too, and no later call changes them (P1).
func TestTreesTellNewMemory(t *testing.T) {
	for tree, want := range someTrees(t) {
		image, items := tree.Image(), want.items("", "")
		first, _ := tree.Scan("", "")
		second, _ := tree.Scan("", "")
		scrub(first, item("s", "s"))
		scrub(tree.Image(), "s")
		checkTold(t, tree, want)
		if !slices.Equal(second, items) || !slices.Equal(tree.Image(), image) {
			t.Errorf("P1: writing into one answer changed another")
		}
		kept := slices.Clone(image)
		for _, i := range items {
			checkMade(t, tree, put(i.Key, "other"))
			checkMade(t, tree, remove(i.Key))
		}
		if !slices.Equal(second, items) || !slices.Equal(image, kept) {
			t.Errorf("P1: later changes changed what came out before")
		}
	}
}

// A tree's calls may be made from several goroutines at a time (P1).
func TestTreeFromSeveralGoroutines(t *testing.T) {
	tree := silt.New()
	var wait sync.WaitGroup
	for g := range 8 {
		wait.Add(1)
		go func() {
			defer wait.Done()
			useTree(t, tree, fmt.Sprint(g))
		}()
	}
	wait.Wait()
	want := told{}
	for g := range 8 {
		for i := range 300 {
			want[fmt.Sprintf("%d-%03d", g, i)] = "ab"
		}
	}
	checkTold(t, tree, want)
	checkImage(t, tree.Image(), want)
}

// useTree makes all calls of a tree, with keys of its own.
func useTree(t *testing.T, tree *silt.Tree, own string) {
	for i := range 300 {
		key := fmt.Sprintf("%s-%03d", own, i)
		tree.Make(put(key, "a"))
		tree.Make(add(key, "b"))
		tree.Make(api.Change{Key: key})
		if v, e := tree.Get(key); v != "ab" || e != api.OK {
			t.Errorf("P1: Get(%q) = %q, %d", key, v, e)
		}
		if l, _ := tree.Scan(own+"-", own+"."); len(l) != i+1 {
			t.Errorf("P1: %d of %d items", len(l), i+1)
		}
		if i%30 > 0 {
			continue
		}
		image := tree.Image()
		other, e := silt.Load(image)
		if e != api.OK {
			t.Errorf("P1: Load of an image = %d", e)
			continue
		}
		if l, _ := other.Scan(own+"-", own+"."); len(l) != i+1 {
			t.Errorf("P1: an image says %d of %d items", len(l), i+1)
		}
	}
}
