package pages

import (
	"silt/api"
	"silt/giveup"
	"silt/rules"
	"silt/wire"
)

const (
	basementItems = 4 // of a basement that is full
	maxBasements  = api.MaxItems / basementItems
)

// leafHead is what a leaf's first bytes say of its basements: the sizes of their sections, and their first keys.
type leafHead struct {
	sizes  []int
	firsts []string
}

func writeLeaf(items []api.Item) string {
	var head leafHead
	body := ""
	for len(items) > 0 {
		n := min(len(items), basementItems)
		section := writeSection(basementSection, basement(items[:n]))
		head.sizes = append(head.sizes, len(section))
		head.firsts = append(head.firsts, items[0].Key)
		body += section
		items = items[n:]
	}
	return head.write() + body
}

func (h leafHead) write() string {
	out := append([]byte(leafMark), byte(len(h.sizes)))
	for i, first := range h.firsts {
		out = append(wire.AppendShort(out, h.sizes[i]), byte(len(first)))
		out = append(out, first...)
		out = append(out, make([]byte, api.MaxKey-len(first))...)
	}
	return string(sealHead(out))
}

// basement tells the content of the section of some items.
func basement(items []api.Item) []byte {
	out := []byte{byte(len(items))}
	ahead := ""
	for _, item := range items {
		same := commonFront(ahead, item.Key)
		out = append(out, byte(same))
		out = wire.AppendText(out, item.Key[same:])
		out = wire.AppendText(out, item.Value)
		ahead = item.Key
	}
	return out
}

// commonFront tells how many bytes are the same at the fronts of both.
func commonFront(a, b string) int {
	n := 0
	for n < min(len(a), len(b)) && a[n] == b[n] {
		n++
	}
	return n
}

func readLeaf(page string) api.Node {
	head := readLeafHead(page)
	n := api.Node{Kind: api.Leaf}
	for i, section := range cutBody(page, head.sizes...) {
		n.Items = append(n.Items, head.readBasement(i, section)...)
	}
	return n
}

// readLeafHead tells what a leaf's first bytes say, and gives up if they are not such as begin a leaf's page.
func readLeafHead(page string) leafHead {
	first := wire.NewReader(page).Take(bodyStart)
	r := wire.NewReader(first)
	r.Take(len(leafMark))
	count := int(r.Byte())
	giveup.Unless(count <= maxBasements)
	var head leafHead
	for range count {
		head.sizes = append(head.sizes, r.Short())
		length := int(r.Byte())
		padded := r.Take(api.MaxKey)
		giveup.Unless(length <= len(padded))
		head.firsts = append(head.firsts, padded[:length])
	}
	giveup.Unless(rules.AreKeys(head.firsts))
	// This holds the rest: the letters ahead, the noughts behind, and the check.
	giveup.Unless(head.write() == first)
	return head
}

// readBasement tells the items of the section of a basement, and gives up if they are none or not those that the head speaks of.
func (h leafHead) readBasement(number int, section string) []api.Item {
	items := readItems(readSection(basementSection, section))
	giveup.Unless(1 <= len(items) && len(items) <= basementItems)
	giveup.Unless(rules.AreItems(items))
	giveup.Unless(items[0].Key == h.firsts[number])
	if next := number + 1; next < len(h.firsts) {
		giveup.Unless(items[len(items)-1].Key < h.firsts[next])
	}
	return items
}

// readItems tells the items of which this is the content, whatever they are, and gives up if there are none such.
func readItems(content string) []api.Item {
	r := wire.NewReader(content)
	var items []api.Item
	ahead := ""
	for range r.Byte() {
		same := int(r.Byte())
		giveup.Unless(same <= len(ahead))
		key := ahead[:same] + r.Text()
		items = append(items, api.Item{Key: key, Value: r.Text()})
		ahead = key
	}
	// A front that is not told whole, and bytes behind the last item, show here.
	giveup.Unless(string(basement(items)) == content)
	return items
}

// Fetch tells the value of a key in a leaf's page, if there is one. It looks at the basement alone in which the key should be, and gives up if this or the page's first bytes are not as they should be.
func Fetch(page, key string) (value string, ok bool) {
	head := readLeafHead(page)
	sections := cutBody(page, head.sizes...)
	number := head.find(key)
	if number < 0 {
		return "", false
	}
	for _, item := range head.readBasement(number, sections[number]) {
		if item.Key == key {
			return item.Value, true
		}
	}
	return "", false
}

// find tells the number of the basement in which a key should be, or -1 if it is ahead of all.
func (h leafHead) find(key string) int {
	number := -1
	for i, first := range h.firsts {
		if first <= key {
			number = i
		}
	}
	return number
}
