package pages

import (
	"strings"

	"silt/api"
	"silt/giveup"
	"silt/rules"
	"silt/wire"
)

const oldMark = "S1"

// Renew tells today's page of the node whose page, old or not, this is, and gives up if there is none.
func Renew(page string) string {
	if strings.HasPrefix(page, oldMark) {
		return Write(readOld(page))
	}
	return Write(Read(page))
}

func readOld(page string) api.Node {
	r := wire.NewReader(wire.Unseal(page))
	r.Take(len(oldMark))
	kind := r.Byte()
	giveup.Unless(kind == 'L' || kind == 'I')
	var n api.Node
	if kind == 'L' {
		n = readOldLeaf(r)
	} else {
		n = readOldBranch(r)
	}
	r.End()
	giveup.Unless(rules.IsNode(n))
	return n
}

func readOldLeaf(r *wire.Reader) api.Node {
	n := api.Node{Kind: api.Leaf}
	for range r.Byte() {
		n.Items = append(n.Items, api.Item{Key: r.Text(), Value: r.Text()})
	}
	return n
}

func readOldBranch(r *wire.Reader) api.Node {
	n := api.Node{Kind: api.Branch}
	count := int(r.Byte())
	for range count {
		n.Children = append(n.Children, int(r.Long()))
	}
	n.Pivots = readPivots(r, count)
	n.Changes = readChanges(r)
	return n
}
