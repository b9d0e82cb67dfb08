// Package rules says what may be a key, a value, a change, a node.
package rules

import (
	"silt/api"
	"silt/wire"
)

// IsKey tells whether s is a key.
func IsKey(s string) bool { return 1 <= len(s) && len(s) <= api.MaxKey }

// IsValue tells whether s is a value.
func IsValue(s string) bool { return len(s) <= api.MaxValue }

// IsChange tells whether c is a change.
func IsChange(c api.Change) bool {
	switch c.Kind {
	case api.Put, api.Append:
		return IsKey(c.Key) && IsValue(c.Value)
	case api.Delete:
		return IsKey(c.Key) && c.Value == ""
	}
	return false
}

// AreKeys tells whether all texts are keys, and rise.
func AreKeys(texts []string) bool {
	for i, s := range texts {
		if !IsKey(s) || i > 0 && texts[i-1] >= s {
			return false
		}
	}
	return true
}

// AreItems tells whether all items have keys and values, and their keys rise.
func AreItems(items []api.Item) bool {
	for i, item := range items {
		if !IsKey(item.Key) || !IsValue(item.Value) || i > 0 && items[i-1].Key >= item.Key {
			return false
		}
	}
	return true
}

// IsNode tells whether n is a node.
func IsNode(n api.Node) bool {
	switch n.Kind {
	case api.Leaf:
		return isLeaf(n)
	case api.Branch:
		return isBranch(n)
	}
	return false
}

func isLeaf(n api.Node) bool {
	if len(n.Children) > 0 || len(n.Pivots) > 0 || len(n.Changes) > 0 {
		return false
	}
	return len(n.Items) <= api.MaxItems && AreItems(n.Items)
}

func isBranch(n api.Node) bool {
	if len(n.Items) > 0 {
		return false
	}
	return areChildren(n.Children) && len(n.Pivots) == len(n.Children)-1 && AreKeys(n.Pivots) && areChanges(n.Changes)
}

func areChildren(children []int) bool {
	if len(children) < 1 || len(children) > api.MaxChildren {
		return false
	}
	for _, c := range children {
		if c < 0 || c > wire.MaxNumber {
			return false
		}
	}
	return true
}

func areChanges(changes []api.Change) bool {
	if len(changes) > api.MaxChanges {
		return false
	}
	for _, c := range changes {
		if !IsChange(c) {
			return false
		}
	}
	return true
}
