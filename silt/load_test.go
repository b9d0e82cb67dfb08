package silt_test

import (
	"fmt"
	"maps"
	"math/rand"
	"slices"
	"strings"
	"testing"

	"silt/api"
	"silt/silt"
)

func branch(children []int, pivots []string, changes ...api.Change) api.Node {
	return api.Node{Kind: api.Branch, Children: children, Pivots: pivots, Changes: changes}
}

// leafWith makes a leaf with keys that have all the same value.
func leafWith(keys ...string) api.Node {
	n := leaf()
	for _, k := range keys {
		n.Items = append(n.Items, item(k, "0"))
	}
	return n
}

// imageOf writes nodes as an image.
func imageOf(nodes ...api.Node) []string {
	var image []string
	for _, n := range nodes {
		page, e := silt.Write(n)
		if e != api.OK {
			page = pageOf(n)
		}
		image = append(image, page)
	}
	return image
}

func TestLoadOfOneLeaf(t *testing.T) {
	for n := range 17 {
		want := told{}
		node := anyLeaf(rand.New(rand.NewSource(int64(n))), n)
		for _, i := range node.Items {
			want[i.Key] = i.Value
		}
		checkTold(t, checkLoaded(t, imageOf(node)), want)
	}
}

// Of a key the changes nearer to the root are the newer ones, and in one branch the later ones.
func TestLoadMakesChangesInTheirOrder(t *testing.T) {
	image := imageOf(
		branch([]int{1}, nil, add("k", "6"), add("k", "7"), add("j", "c"), remove("i")),
		branch([]int{2}, nil, add("k", "4"), remove("j"), add("k", "5"), add("j", "b")),
		branch([]int{3}, nil, put("k", "1"), put("j", "a"), add("k", "2"), add("k", "3"), put("i", "x"), put("h", "y"), remove("g")),
		leafWith("g", "h", "k"))
	checkTold(t, checkLoaded(t, image), told{"h": "y", "j": "bc", "k": "1234567"})
}

func TestLoadRefuses(t *testing.T) {
	two, m := []int{1, 2}, []string{"m"}
	for what, nodes := range map[string][]api.Node{
		"no page":                                  {},
		"a child that is not there":                {branch([]int{1}, nil)},
		"a second child that is not there":         {branch(two, m), leaf()},
		"a child that is far from there":           {branch([]int{2147483647}, nil), leaf()},
		"the root as its own child":                {branch([]int{0}, nil)},
		"the root as its second child":             {branch([]int{1, 0}, m), leaf()},
		"the root as a grandchild":                 {branch([]int{1}, nil), branch([]int{0}, nil)},
		"a child twice":                            {branch([]int{1, 1}, m), leaf()},
		"a child twice beside another":             {branch([]int{1, 2, 1}, []string{"m", "n"}), leaf(), leaf()},
		"a child of two branches":                  {branch(two, m), branch([]int{3}, nil), branch([]int{3}, nil), leaf()},
		"a branch of two branches":                 {branch(two, m), branch([]int{3}, nil), branch([]int{3}, nil), branch([]int{4}, nil), leaf()},
		"a branch that has itself":                 {branch([]int{1}, nil), branch([]int{1}, nil)},
		"a leaf that nobody has":                   {leaf(), leaf()},
		"a leaf that nobody has behind a tree":     {branch(two, m), leaf(), leaf(), leaf()},
		"a branch that nobody has":                 {leaf(), branch([]int{0}, nil)},
		"a branch and its leaf that nobody has":    {leaf(), branch([]int{2}, nil), leaf()},
		"two branches that have each other":        {leaf(), branch([]int{2}, nil), branch([]int{1}, nil)},
		"a branch that has but itself":             {leaf(), branch([]int{1}, nil)},
		"a leaf too high":                          {branch(two, m), leaf(), branch([]int{3}, nil), leaf()},
		"a leaf too low":                           {branch(two, m), branch([]int{3}, nil), leaf(), leaf()},
		"an item that is too great":                {branch(two, m), leafWith("m"), leaf()},
		"a last item that is too great":            {branch(two, m), leafWith("a", "b", "c", "d", "e", "mm"), leaf()},
		"an item that is too small":                {branch(two, m), leaf(), leafWith("l\xff")},
		"a first item that is too small":           {branch(two, m), leaf(), leafWith("l", "n", "o")},
		"an item of a middle child, too great":     {branch([]int{1, 2, 3}, []string{"m", "n"}), leaf(), leafWith("n"), leaf()},
		"an item of a middle child, too small":     {branch([]int{1, 2, 3}, []string{"m", "n"}), leaf(), leafWith("l"), leaf()},
		"an item too great for the root's pivot":   {branch(two, m), branch([]int{3}, nil), branch([]int{4}, nil), leafWith("m"), leaf()},
		"an item too small for the root's pivot":   {branch(two, m), branch([]int{3}, nil), branch([]int{4}, nil), leaf(), leafWith("l")},
		"an item too great in a last child":        {branch(two, m), branch([]int{3, 4}, []string{"c"}), branch([]int{5}, nil), leaf(), leafWith("m"), leaf()},
		"an item too small in a first child":       {branch(two, m), branch([]int{3}, nil), branch([]int{4, 5}, []string{"p"}), leaf(), leafWith("l"), leaf()},
		"a change that is too great":               {branch(two, m), branch([]int{3}, nil, put("m", "")), branch([]int{4}, nil), leaf(), leaf()},
		"a change that is too small":               {branch(two, m), branch([]int{3}, nil), branch([]int{4}, nil, put("m", ""), remove("l")), leaf(), leaf()},
		"a pivot that is too great":                {branch(two, m), branch([]int{3, 4}, []string{"m"}), branch([]int{5}, nil), leaf(), leaf(), leaf()},
		"a pivot that is too small":                {branch(two, m), branch([]int{3}, nil), branch([]int{4, 5}, []string{"l"}), leaf(), leaf(), leaf()},
		"an item where no key belongs":             {branch(two, m), branch([]int{3}, nil), branch([]int{4, 5}, m), leaf(), leafWith("m"), leaf()},
		"a pivot where no key belongs":             {branch(two, m), branch([]int{3}, nil), branch([]int{4, 5}, m), branch([]int{6}, nil), branch([]int{7, 8}, m), branch([]int{9}, nil), leaf(), leaf(), leaf(), leaf()},
		"a change where no key belongs":            {branch(two, m), branch([]int{3}, nil), branch([]int{4, 5}, m), branch([]int{6}, nil), branch([]int{7}, nil, put("m", "")), branch([]int{8}, nil), leaf(), leaf(), leaf()},
		"leaves too high where no key belongs":     {branch(two, m), branch([]int{3}, nil), branch([]int{4, 5}, m), branch([]int{6}, nil), leaf(), branch([]int{7}, nil), leaf(), leaf()},
		"a page in two ways where no key belongs":  {branch(two, m), branch([]int{3}, nil), branch([]int{4, 4}, m), leaf(), leaf()},
		"a change too great two levels below":      {branch(two, m), branch([]int{3}, nil), branch([]int{4}, nil), branch([]int{5}, nil, put("z", "")), branch([]int{6}, nil), leaf(), leaf()},
		"a pivot too small for the root two below": {branch(two, m), branch([]int{3}, nil), branch([]int{4}, nil), branch([]int{5}, nil), branch([]int{6, 7}, []string{"a"}), leaf(), leaf(), leaf()},
	} {
		checkUnloaded(t, what, imageOf(nodes...))
		if what != "no page" && read(imageOf(nodes...)).fault == "" {
			t.Errorf("an image with %s is right", what)
		}
	}
}

// All that a right image may be, at its edges.
func TestLoadTakes(t *testing.T) {
	two, m := []int{1, 2}, []string{"m"}
	for what, nodes := range map[string][]api.Node{
		"one empty leaf":                     {leaf()},
		"a branch of one child":              {branch([]int{1}, nil), leaf()},
		"keys at the pivots":                 {branch([]int{1, 2, 3}, []string{"m", "n"}), leafWith("l\xff"), leafWith("m", "m\xff"), leafWith("n")},
		"changes at the pivots":              {branch(two, m, put("l\xff", "a"), put("m", "b")), branch([]int{3}, nil, add("l\xff", "c")), branch([]int{4}, nil, add("m", "d")), leafWith("l\xff"), leafWith("m")},
		"a pivot that is the one above it":   {branch(two, m), branch([]int{3}, nil), branch([]int{4, 5}, m), leafWith("l"), leaf(), leafWith("m")},
		"a branch where no key belongs":      {branch(two, m), branch([]int{3}, nil), branch([]int{4, 5}, m), branch([]int{6}, nil), branch([]int{7}, nil), branch([]int{8}, nil, add("m", "1")), leafWith("l"), leaf(), leafWith("m")},
		"pages in another order":             {branch([]int{4, 2}, m), leafWith("n"), branch([]int{1}, nil), leafWith("b"), branch([]int{3}, nil)},
		"a root with changes alone":          {branch([]int{1}, nil, put("a", "1"), put("b", "2"), remove("c")), leaf()},
		"changes of one key on all levels":   {branch([]int{1}, nil, add("a", "3")), branch([]int{2}, nil, add("a", "2")), branch([]int{3}, nil, add("a", "1")), leafWith("a")},
		"a deleted key that is put below":    {branch([]int{1}, nil, remove("a")), branch([]int{2}, nil, put("a", "2")), leafWith("a")},
		"a key that is put above its delete": {branch([]int{1}, nil, put("a", "2")), branch([]int{2}, nil, remove("a")), leafWith("a")},
	} {
		r := read(imageOf(nodes...))
		if r.fault != "" {
			t.Fatalf("an image with %s is not right: %s", what, r.fault)
		}
		tree := checkLoaded(t, imageOf(nodes...))
		checkTold(t, tree, r.says())
		checkImage(t, tree.Image(), r.says())
		goOn(t, tree, r.says(), rand.New(rand.NewSource(41)), 200)
	}
}

// goOn makes changes in a tree that says what is told, and holds it against them.
func goOn(t *testing.T, tree *silt.Tree, want told, r *rand.Rand, changes int) {
	t.Helper()
	for n := range changes {
		c := anyChange(r, anyKeyOf(r, want, anyKey(r)))
		checkMade(t, tree, c)
		want.make(c)
		if n%20 == 0 {
			checkTold(t, tree, want)
			checkImage(t, tree.Image(), want)
		}
	}
	checkTold(t, tree, want)
	checkImage(t, tree.Image(), want)
}

// anyKey makes one of a few hundred keys, some of which begin others.
func anyKey(r *rand.Rand) string {
	b := make([]byte, 1+r.Intn(3))
	for i := range b {
		b[i] = "aglmnz\xff"[r.Intn(7)]
	}
	return string(b)
}

// maker makes the nodes of an image that is right, at random.
type maker struct {
	r     *rand.Rand
	nodes []api.Node
}

// keys makes up to n rising keys in a range; an empty end is none.
func (m *maker) keys(n int, b bounds) []string {
	var keys []string
	for range 20 * n {
		if k := anyKey(m.r); len(keys) < n && k >= b.from && (b.to == "" || k < b.to) {
			keys = append(keys, k)
		}
	}
	slices.Sort(keys)
	return slices.Compact(keys)
}

// page makes the node of a page that is so far above its leaves, and all below it, and tells its number.
func (m *maker) page(height int, b bounds) int {
	at := len(m.nodes)
	m.nodes = append(m.nodes, api.Node{})
	n := api.Node{Kind: api.Leaf}
	if height == 0 {
		for _, k := range m.keys(m.r.Intn(17), b) {
			n.Items = append(n.Items, item(k, anyBytes(m.r, 0, 16)))
		}
		m.nodes[at] = n
		return at
	}
	n = branch(nil, m.keys(m.r.Intn(4), b))
	if b.from != "" && len(n.Pivots) > 0 && m.r.Intn(3) == 0 {
		n.Pivots[0] = b.from
	}
	for range m.r.Intn(9) {
		for _, k := range m.keys(1, b) {
			n.Changes = append(n.Changes, anyChange(m.r, k))
		}
	}
	for i := range len(n.Pivots) + 1 {
		below := b
		if i > 0 {
			below.from = n.Pivots[i-1]
		}
		if i < len(n.Pivots) {
			below.to = n.Pivots[i]
		}
		n.Children = append(n.Children, m.page(height-1, below))
	}
	m.nodes[at] = n
	return at
}

// mixed tells the nodes of an image in another order, the root still first.
func mixed(r *rand.Rand, nodes []api.Node) []api.Node {
	to := append([]int{0}, r.Perm(len(nodes)-1)...)
	out := make([]api.Node, len(nodes))
	for i, n := range nodes {
		if i > 0 {
			to[i]++
		}
		out[to[i]] = n
	}
	for i, n := range out {
		out[i].Children = nil
		for _, c := range n.Children {
			out[i].Children = append(out[i].Children, to[c])
		}
	}
	return out
}

// anyImage makes the nodes of an image that is right.
func anyImage(r *rand.Rand) []api.Node {
	m := maker{r: r}
	m.page(r.Intn(5), bounds{})
	if r.Intn(2) == 0 || len(m.nodes) == 1 {
		return m.nodes
	}
	return mixed(r, m.nodes)
}

func TestLoadOfAnyImage(t *testing.T) {
	r := rand.New(rand.NewSource(42))
	for n := range 400 {
		image := imageOf(anyImage(r)...)
		right := read(image)
		if right.fault != "" {
			t.Fatalf("%s", right.fault)
		}
		want := right.says()
		tree := checkLoaded(t, image)
		checkTold(t, tree, want)
		for range 20 {
			from, to := anyKey(r), anyKey(r)
			checkScan(t, tree, from, to, want.items(from, to))
			checkGet(t, tree, from, want)
		}
		checkImage(t, tree.Image(), want)
		if n%4 == 0 {
			goOn(t, tree, want, r, 150)
		}
	}
}

// spoil changes something in the nodes of an image.
func spoil(r *rand.Rand, nodes []api.Node) []api.Node {
	nodes = slices.Clone(nodes)
	at := r.Intn(len(nodes))
	n := nodes[at]
	n.Children, n.Pivots, n.Items, n.Changes = slices.Clone(n.Children), slices.Clone(n.Pivots), slices.Clone(n.Items), slices.Clone(n.Changes)
	switch kind := r.Intn(8); {
	case kind == 0 && len(n.Children) > 0:
		n.Children[r.Intn(len(n.Children))] = r.Intn(len(nodes) + 1)
	case kind == 1 && len(n.Pivots) > 0:
		n.Pivots[r.Intn(len(n.Pivots))] = anyKey(r)
	case kind == 2 && len(n.Items) > 0:
		n.Items[r.Intn(len(n.Items))].Key = anyKey(r)
	case kind == 3 && len(n.Changes) > 0:
		n.Changes[r.Intn(len(n.Changes))].Key = anyKey(r)
	case kind == 4:
		other := r.Intn(len(nodes))
		nodes[at], nodes[other] = nodes[other], n
		return nodes
	case kind == 5:
		return append(nodes, n)
	case kind == 6:
		return slices.Delete(nodes, at, at+1)
	case kind == 7:
		nodes = append(nodes, n)
		n = branch([]int{len(nodes) - 1}, nil)
	}
	nodes[at] = n
	return nodes
}

// Whether Load takes an image hangs on whether it is right, and on nothing else.
func TestLoadOfSpoiltImages(t *testing.T) {
	r := rand.New(rand.NewSource(43))
	right, wrong := 0, 0
	for range 3000 {
		image := imageOf(spoil(r, anyImage(r))...)
		if len(image) == 0 {
			continue
		}
		if got := read(image); got.fault != "" {
			wrong++
			checkUnloaded(t, got.fault, image)
		} else {
			right++
			checkTold(t, checkLoaded(t, image), got.says())
		}
	}
	if right < 300 || wrong < 300 {
		t.Errorf("%d images were right, %d were not", right, wrong)
	}
}

// A page that is none, or is old, spoils an image wherever it stands.
func TestLoadRefusesPages(t *testing.T) {
	r := rand.New(rand.NewSource(44))
	for range 40 {
		nodes := anyImage(r)
		image := imageOf(nodes...)
		for at, page := range image {
			for what, other := range map[string]string{
				"an empty page":          "",
				"an old page":            sealed(oldOf(nodes[at])),
				"a page that is cut":     page[:len(page)-1],
				"a page that is longer":  page + "\x00",
				"a page with a bit more": turned(page, r.Intn(8*len(page)), 1),
			} {
				spoilt := slices.Clone(image)
				spoilt[at] = other
				checkUnloaded(t, what, spoilt)
			}
		}
	}
	for _, image := range [][]string{nil, {}, {""}, {"x"}, {"", ""}, make([]string, 100000)} {
		checkUnloaded(t, "nothing", image)
	}
}

// chains makes nodes of chains of branches of one child each, side by side below the root, a leaf at the end of each.
func chains(count, length int) (nodes []api.Node, want told) {
	pivots := []string{"c", "f", "i"}[:count-1]
	nodes = []api.Node{branch(nil, pivots)}
	want = told{}
	for at := range count {
		nodes[0].Children = append(nodes[0].Children, len(nodes))
		key := "behg"[at : at+1]
		for i := range length {
			nodes = append(nodes, branch([]int{len(nodes) + 1}, nil, add(key, fmt.Sprint((length-i)%10))))
		}
		nodes = append(nodes, leafWith(key))
		for i := range length {
			want.make(add(key, fmt.Sprint((i+1)%10)))
		}
	}
	return nodes, want
}

// No image is too deep, and what comes of it is a tree like others (P1).
func TestLoadOfDeepImages(t *testing.T) {
	for _, c := range []struct{ count, length int }{{1, 60}, {1, 62}, {1, 63}, {1, 64}, {1, 65}, {2, 62}, {2, 63}, {2, 100}, {1, 100000}, {3, 20000}} {
		nodes, want := chains(c.count, c.length)
		for key, value := range want {
			want[key] = ("0" + value)[max(0, len(value)-15):]
		}
		image := imageOf(nodes...)
		tree := checkLoaded(t, image)
		checkTold(t, tree, want)
		goOn(t, tree, want, rand.New(rand.NewSource(45)), 100)
		image[len(image)-1] = image[0]
		checkUnloaded(t, "a root at the end", image)
	}
}

// A leaf that is not as deep as others is found, however deep they are.
func TestLoadRefusesDeepImages(t *testing.T) {
	long, _ := chains(1, 50000)
	nodes := append(long, branch([]int{1, len(long) + 1}, []string{"x"}), leaf())
	nodes[0], nodes[len(long)] = nodes[len(long)], leaf()
	checkUnloaded(t, "leaves of two depths", imageOf(nodes...))
	ring := slices.Clone(long)
	ring[len(ring)-1] = branch([]int{1}, nil)
	checkUnloaded(t, "a ring", imageOf(ring...))
}

// What is handed in is not written into, nor its spare room, and nothing of it is kept (P1).
func TestLoadLeavesItsImageAlone(t *testing.T) {
	r := rand.New(rand.NewSource(46))
	for range 50 {
		image := imageOf(anyImage(r)...)
		mine := spare(image, "spare", 5)
		before := slices.Clone(mine[:len(mine)+5])
		want := read(image).says()
		tree := checkLoaded(t, mine)
		goOn(t, tree, maps.Clone(want), r, 40)
		if !slices.Equal(mine[:len(mine)+5], before) {
			t.Errorf("P1: Load, or a change in what it answered, changed the image")
		}
		again := checkLoaded(t, mine)
		scrub(mine, "gone")
		checkTold(t, again, want)
		items, _ := again.Scan("", "")
		for _, i := range items {
			for _, page := range image {
				if within(i.Key, page) || within(i.Value, page) {
					t.Errorf("P1: %q lies in the memory of a page", i)
				}
			}
		}
	}
}

// Two trees of one image do not touch one another (P1).
func TestTreesOfOneImage(t *testing.T) {
	r := rand.New(rand.NewSource(47))
	for range 30 {
		image := imageOf(anyImage(r)...)
		want := read(image).says()
		a, b := checkLoaded(t, image), checkLoaded(t, image)
		wantA := maps.Clone(want)
		goOn(t, a, wantA, r, 60)
		checkTold(t, b, want)
		goOn(t, b, want, r, 60)
		checkTold(t, a, wantA)
	}
}

// Nothing of a change's texts is kept (P1).
func TestMakeKeepsNothingOfItsChange(t *testing.T) {
	tree := silt.New()
	var texts []string
	for i := range 200 {
		c := anyChange(rand.New(rand.NewSource(int64(i))), fmt.Sprintf("%03d", i))
		if i%2 > 0 {
			c.Key = strings.Clone(texts[0])
		}
		checkMade(t, tree, c)
		texts = append(texts, c.Key, c.Value)
		items, _ := tree.Scan("", "")
		for _, item := range items {
			value, _ := tree.Get(item.Key)
			for _, s := range texts {
				if within(item.Key, s) || within(item.Value, s) || within(value, s) {
					t.Fatalf("P1: %q lies in the memory of a change", item)
				}
			}
		}
	}
}
