// Package silt: a tree whose leaves are told later: see DOC.md.
package silt

import (
	"sync"

	"silt/api"
	"silt/giveup"
	"silt/pages"
	"silt/rules"
	"silt/squeeze"
	"silt/tree"
)

// Squeeze squeezes bytes (P2).
func Squeeze(s string) string { return squeeze.Squeeze(s) }

// Spread spreads what was squeezed (P2).
func Spread(s string) (string, api.Errno) {
	return giveup.Catch(func() string { return squeeze.Spread(s) })
}

// Write writes a node's page (P3).
func Write(n api.Node) (string, api.Errno) {
	if !rules.IsNode(n) {
		return "", api.ErrArg
	}
	return pages.Write(n), api.OK
}

// Read reads a page (P3).
func Read(page string) (api.Node, api.Errno) {
	return giveup.Catch(func() api.Node { return pages.Read(page) })
}

// Fetch looks for a key in a leaf's page, in one basement (P4).
func Fetch(page, key string) (string, api.Errno) {
	found := false
	value, e := giveup.Catch(func() (value string) {
		value, found = pages.Fetch(page, key)
		return value
	})
	if e == api.OK && !found {
		e = api.ErrNone
	}
	return value, e
}

// Renew makes today's page of an old one (P5).
func Renew(page string) (string, api.Errno) {
	return giveup.Catch(func() string { return pages.Renew(page) })
}

// Tree keeps keys and values.
type Tree struct {
	mutex sync.Mutex
	kept  *tree.Tree
}

// New makes an empty tree (P6).
func New() *Tree { return &Tree{kept: tree.New()} }

// Make makes a change (P6).
func (t *Tree) Make(c api.Change) api.Errno {
	t.mutex.Lock()
	defer t.mutex.Unlock()
	if !rules.IsChange(c) {
		return api.ErrArg
	}
	t.kept.Make(c)
	return api.OK
}

// Get tells a key's value (P6).
func (t *Tree) Get(key string) (string, api.Errno) {
	t.mutex.Lock()
	defer t.mutex.Unlock()
	value, ok := t.kept.Get(key)
	if !ok {
		return "", api.ErrNone
	}
	return value, api.OK
}

// Scan tells the items from one key to another (P6).
func (t *Tree) Scan(from, to string) ([]api.Item, api.Errno) {
	t.mutex.Lock()
	defer t.mutex.Unlock()
	return t.kept.Scan(from, to), api.OK
}

// Image tells the tree's pages (P7).
func (t *Tree) Image() []string {
	t.mutex.Lock()
	defer t.mutex.Unlock()
	return t.kept.Image()
}

// Load makes a tree of pages (P7).
func Load(image []string) (*Tree, api.Errno) {
	kept, e := giveup.Catch(func() *tree.Tree { return tree.Load(image) })
	if e != api.OK {
		return nil, e
	}
	return &Tree{kept: kept}, api.OK
}
