package tree

import (
	"silt/api"
	"silt/pages"
)

// Image tells a tree's pages, the root's first.
func (t *Tree) Image() []string {
	var image []string
	nodes := []*node{t.root}
	for at := 0; at < len(nodes); at++ {
		n := nodes[at]
		image = append(image, pages.Write(n.plain(len(nodes))))
		for _, p := range n.parts {
			nodes = append(nodes, p.node)
		}
	}
	return image
}

// plain tells a node as its page says it, its children's pages being numbered from first on.
func (n *node) plain(first int) api.Node {
	if n.isLeaf() {
		return api.Node{Kind: api.Leaf, Items: n.items}
	}
	out := api.Node{Kind: api.Branch, Changes: n.changes}
	for i, p := range n.parts {
		out.Children = append(out.Children, first+i)
		if i > 0 {
			out.Pivots = append(out.Pivots, p.from)
		}
	}
	return out
}
