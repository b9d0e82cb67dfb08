package pages

import (
	"silt/api"
	"silt/wire"
)

func writeBranch(n api.Node) string {
	children := writeSection(childrenSection, childrenContent(n.Children, n.Pivots))
	changes := writeSection(changesSection, changesContent(n.Changes))
	head := append([]byte(branchMark), byte(len(n.Children)))
	head = wire.AppendShort(head, len(children))
	head = wire.AppendShort(head, len(changes))
	return string(sealHead(head)) + children + changes
}

func childrenContent(children []int, pivots []string) []byte {
	var out []byte
	for _, c := range children {
		out = wire.AppendNumber(out, c)
	}
	for _, p := range pivots {
		out = wire.AppendText(out, p)
	}
	return out
}

func changesContent(changes []api.Change) []byte {
	out := []byte{byte(len(changes))}
	for _, c := range changes {
		out = wire.AppendText(append(out, byte(c.Kind)), c.Key)
		if c.Kind != api.Delete {
			out = wire.AppendText(out, c.Value)
		}
	}
	return out
}

func readBranch(page string) api.Node {
	r := wire.NewReader(page)
	r.Take(len(branchMark))
	count := int(r.Byte())
	sections := cutBody(page, r.Short(), r.Short())
	n := api.Node{Kind: api.Branch}
	n.Children, n.Pivots = readChildren(readSection(childrenSection, sections[0]), count)
	changes := wire.NewReader(readSection(changesSection, sections[1]))
	n.Changes = readChanges(changes)
	changes.End()
	return n
}

func readChildren(content string, count int) (children []int, pivots []string) {
	r := wire.NewReader(content)
	for range count {
		children = append(children, r.Number())
	}
	pivots = readPivots(r, count)
	r.End()
	return children, pivots
}

// readPivots takes the pivots between that many children.
func readPivots(r *wire.Reader, children int) []string {
	var pivots []string
	for range children - 1 {
		pivots = append(pivots, r.Text())
	}
	return pivots
}

// readChanges takes a list of changes, its length ahead, whatever their kinds.
func readChanges(r *wire.Reader) []api.Change {
	var changes []api.Change
	for range r.Byte() {
		c := api.Change{Kind: int(r.Byte()), Key: r.Text()}
		if c.Kind != api.Delete {
			c.Value = r.Text()
		}
		changes = append(changes, c)
	}
	return changes
}
