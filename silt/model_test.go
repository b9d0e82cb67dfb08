package silt_test

import (
	"encoding/binary"
	"hash/crc32"
	"math/rand"
	"strings"

	"silt/api"
)

// This file writes pages by the document's words, apart from the program, and also such pages as no node has.

// sealed lays the check of a text behind it.
func sealed(s string) string {
	sum := crc32.Checksum([]byte(s), crc32.MakeTable(crc32.Castagnoli))
	return string(binary.LittleEndian.AppendUint32([]byte(s), sum))
}

// number writes a number: Go's own varints are the document's.
func number(n int) string { return string(binary.AppendUvarint(nil, uint64(n))) }

func text(s string) string { return number(len(s)) + s }

func one(n int) string { return string([]byte{byte(n)}) }

func two(n int) string { return string([]byte{byte(n), byte(n >> 8)}) }

// section writes a section as it should be.
func section(kind, content string) string {
	if s := slowSqueeze(content); len(s) < len(content) {
		return sealed(kind + "\x01" + number(len(content)) + text(s))
	}
	return sealed(kind + "\x00" + number(len(content)) + text(content))
}

// head fills a page's first bytes up with noughts and lays their check behind.
func head(s string) string { return sealed(s + strings.Repeat("\x00", 64-len(s))) }

// entry is what a leaf's first bytes say of a basement.
func entry(size int, first string) string {
	return two(size) + one(len(first)) + first + strings.Repeat("\x00", 12-len(first))
}

// basement writes a basement's content, whatever the items.
func basement(items []api.Item) string {
	s := one(len(items))
	for i, item := range items {
		same := 0
		if i > 0 {
			for same < len(item.Key) && strings.HasPrefix(items[i-1].Key, item.Key[:same+1]) {
				same++
			}
		}
		s += one(same) + text(item.Key[same:]) + text(item.Value)
	}
	return s
}

// leafOf writes a leaf's page of these sections.
func leafOf(firsts []string, sections ...string) string {
	s := "S2L" + one(len(firsts))
	for i, first := range firsts {
		s += entry(len(sections[i]), first)
	}
	return head(s) + strings.Join(sections, "")
}

// branchOf writes a branch's page of these sections.
func branchOf(children int, p, m string) string {
	return head("S2I"+one(children)+two(len(p))+two(len(m))) + p + m
}

// pageOf writes a node's page.
func pageOf(n api.Node) string {
	if n.Kind == api.Branch {
		return branchOf(len(n.Children), section("p", childrenOf(n)), section("m", changesOf(n.Changes)))
	}
	var firsts, sections []string
	for at := 0; at < len(n.Items); at += 4 {
		firsts = append(firsts, n.Items[at].Key)
		sections = append(sections, section("b", basement(n.Items[at:min(at+4, len(n.Items))])))
	}
	return leafOf(firsts, sections...)
}

func childrenOf(n api.Node) string {
	s := ""
	for _, c := range n.Children {
		s += number(c)
	}
	for _, p := range n.Pivots {
		s += text(p)
	}
	return s
}

func changesOf(changes []api.Change) string {
	s := one(len(changes))
	for _, c := range changes {
		s += one(c.Kind) + text(c.Key)
		if c.Kind != api.Delete {
			s += text(c.Value)
		}
	}
	return s
}

// oldOf writes a node's old page, its check left out.
func oldOf(n api.Node) string {
	if n.Kind == api.Leaf {
		s := "S1L" + one(len(n.Items))
		for _, item := range n.Items {
			s += text(item.Key) + text(item.Value)
		}
		return s
	}
	s := "S1I" + one(len(n.Children))
	for _, c := range n.Children {
		s += string(binary.LittleEndian.AppendUint32(nil, uint32(c)))
	}
	for _, p := range n.Pivots {
		s += text(p)
	}
	return s + changesOf(n.Changes)
}

// partsOf tells where the parts of a page end that have checks of their own: its first bytes, and each section.
func partsOf(page string) []int {
	ends := []int{68}
	count, at, step := int(page[3]), 4, 15
	if page[2] == 'I' {
		count, step = 2, 2
	}
	for range count {
		ends = append(ends, ends[len(ends)-1]+int(page[at])+int(page[at+1])<<8)
		at += step
	}
	return ends
}

// leaf makes a leaf of items.
func leaf(items ...api.Item) api.Node { return api.Node{Kind: api.Leaf, Items: items} }

func item(key, value string) api.Item { return api.Item{Key: key, Value: value} }

func put(key, value string) api.Change { return api.Change{Kind: api.Put, Key: key, Value: value} }

// isRising tells whether texts are keys and rise.
func isRising(keys []string) bool {
	for i, k := range keys {
		if len(k) < 1 || len(k) > 12 || i > 0 && strings.Compare(keys[i-1], k) >= 0 {
			return false
		}
	}
	return true
}

// anyBytes makes up to most bytes of few kinds, so that there are matches and common fronts.
func anyBytes(r *rand.Rand, least, most int) string {
	b := make([]byte, least+r.Intn(most-least+1))
	kinds := []int{1, 2, 5, 256}[r.Intn(4)]
	for i := range b {
		b[i] = byte(r.Intn(kinds) * (256 / kinds))
	}
	return string(b)
}

// anyKeys makes n rising keys.
func anyKeys(r *rand.Rand, n int) []string {
	var keys []string
	for len(keys) < n {
		at, k := 0, anyBytes(r, 1, 12)
		for at < len(keys) && keys[at] < k {
			at++
		}
		if at == len(keys) || keys[at] != k {
			keys = append(keys[:at], append([]string{k}, keys[at:]...)...)
		}
	}
	return keys
}

// anyLeaf makes a leaf of n items.
func anyLeaf(r *rand.Rand, n int) api.Node {
	node := leaf()
	for _, k := range anyKeys(r, n) {
		node.Items = append(node.Items, item(k, anyBytes(r, 0, 16)))
	}
	return node
}

// anyBranch makes a branch of so many children and changes.
func anyBranch(r *rand.Rand, children, changes int) api.Node {
	n := api.Node{Kind: api.Branch, Pivots: anyKeys(r, children-1)}
	for range children {
		n.Children = append(n.Children, r.Intn(1<<(1+r.Intn(31))))
	}
	for range changes {
		c := api.Change{Kind: 1 + r.Intn(3), Key: anyBytes(r, 1, 12)}
		if c.Kind != api.Delete {
			c.Value = anyBytes(r, 0, 16)
		}
		n.Changes = append(n.Changes, c)
	}
	return n
}

// someNodes makes nodes of all sizes.
func someNodes(r *rand.Rand) []api.Node {
	var nodes []api.Node
	for n := range 17 {
		nodes = append(nodes, anyLeaf(r, n))
	}
	for children := 1; children <= 4; children++ {
		for changes := range 9 {
			nodes = append(nodes, anyBranch(r, children, changes))
		}
	}
	return nodes
}
