// Package pages writes nodes as pages and reads them again.
package pages

import (
	"strings"

	"silt/api"
	"silt/giveup"
	"silt/rules"
	"silt/wire"
)

const (
	leafMark   = "S2L"
	branchMark = "S2I"
)

const (
	headSize  = 64                        // a page's first bytes
	bodyStart = headSize + wire.CheckSize // where its sections begin
)

// Write tells the page of what is a node.
func Write(n api.Node) string {
	if n.Kind == api.Leaf {
		return writeLeaf(n.Items)
	}
	return writeBranch(n)
}

// Read tells the node whose page this is, and gives up if there is none.
func Read(page string) api.Node {
	n := readEither(page)
	// What can be read may still have been written in another way than Write's.
	giveup.Unless(rules.IsNode(n) && Write(n) == page)
	return n
}

func readEither(page string) api.Node {
	if strings.HasPrefix(page, branchMark) {
		return readBranch(page)
	}
	return readLeaf(page)
}

// sealHead fills a page's first bytes up with noughts, and lays their check behind.
func sealHead(head []byte) []byte {
	return wire.Seal(append(head, make([]byte, headSize-len(head))...))
}

// cutBody tells a page's sections, and gives up if it has not just as many bytes as their sizes say.
func cutBody(page string, sizes ...int) []string {
	r := wire.NewReader(page)
	r.Take(bodyStart)
	var sections []string
	for _, size := range sizes {
		sections = append(sections, r.Take(size))
	}
	r.End()
	return sections
}
