package silt_test

import (
	"math/rand"
	"reflect"
	"strings"
	"sync"
	"testing"

	"silt/api"
	"silt/silt"
)

// checkPage holds Write of a node, and Read of that, against what they should be.
func checkPage(t *testing.T, n api.Node, page string) {
	t.Helper()
	if s, e := silt.Write(n); s != page || e != api.OK {
		t.Errorf("P3: Write(%+v) = %q, %d, want %q", n, s, e, page)
	}
	if got, e := silt.Read(page); !reflect.DeepEqual(got, n) || e != api.OK {
		t.Errorf("P3: Read(%q) = %+v, %d, want %+v", page, got, e, n)
	}
}

// checkUnwritten holds Write of what is no node.
func checkUnwritten(t *testing.T, n api.Node) {
	t.Helper()
	if s, e := silt.Write(n); s != "" || e != api.ErrArg {
		t.Errorf("P3: Write(%+v) = %q, %d, want nothing, ErrArg", n, s, e)
	}
}

func TestWriteExamples(t *testing.T) {
	checkPage(t, leaf(), sealed("S2L"+strings.Repeat("\x00", 61)))
	checkPage(t, leaf(item("a", "x")), sealed("S2L\x01\x0e\x00\x01a"+strings.Repeat("\x00", 56))+sealed("b\x00\x06\x06\x01\x00\x01a\x01x"))
	if s := sealed("123456789"); s[9:] != string([]byte{131, 146, 6, 227}) {
		t.Errorf("the tests' own check of the example is %q", s[9:])
	}
	hundreds := api.Node{Kind: api.Branch, Children: []int{300}}
	checkPage(t, hundreds, head("S2I\x01\x0a\x00\x09\x00")+sealed("p\x00\x02\x02\xac\x02")+sealed("m\x00\x01\x01\x00"))
}

func TestWriteOfAllSizes(t *testing.T) {
	r := rand.New(rand.NewSource(11))
	for range 60 {
		for _, n := range someNodes(r) {
			checkPage(t, n, pageOf(n))
		}
	}
}

// Items by fours: where the basements end.
func TestWriteBasements(t *testing.T) {
	var items []api.Item
	for n := range 17 {
		page, _ := silt.Write(leaf(items...))
		if want := (n + 3) / 4; len(page) < 68 || int(page[3]) != want {
			t.Errorf("P3: the page of %d items, %q, has not %d basements", n, page, want)
		}
		checkPage(t, leaf(items...), pageOf(leaf(items...)))
		items = append(items, item(string([]byte{'k', byte('a' + n)}), "v"))
	}
	// Across basements nothing of a key is left out.
	page, _ := silt.Write(leaf(items[:5]...))
	if want := section("b", "\x01\x00\x02ke\x01v"); !strings.HasSuffix(page, want) {
		t.Errorf("P3: the fifth item's section in %q is not %q", page, want)
	}
}

func TestWriteCommonFronts(t *testing.T) {
	content := "\x04" + "\x00\x01\x00\x00" + "\x01\x01\x00\x01v" + "\x02\x02ab\x00" + "\x03\x01c\x02ww"
	items := []api.Item{item("\x00", ""), item("\x00\x00", "v"), item("\x00\x00ab", ""), item("\x00\x00ac", "ww")}
	checkPage(t, leaf(items...), leafOf([]string{"\x00"}, section("b", content)))
	checkPage(t, leaf(item("a", ""), item("ab", ""), item("b", "")), leafOf([]string{"a"}, section("b", "\x03\x00\x01a\x00\x01\x01b\x00\x00\x01b\x00")))
	longest := strings.Repeat("k", 11)
	checkPage(t, leaf(item(longest+"a", ""), item(longest+"b", "")), leafOf([]string{longest + "a"}, section("b", "\x02\x00\x0c"+longest+"a\x00\x0b\x01b\x00")))
}

// The content is squeezed if that has fewer bytes, not if it has as many.
func TestWriteSqueezesWhatGetsShorter(t *testing.T) {
	for _, c := range []struct{ value, written string }{
		{"xxxx12", "\x00\x0e\x0e\x01\x00\x04abcd\x06xxxx12"},           // one byte more
		{"12xxxx", "\x00\x0e\x0e\x01\x00\x04abcd\x0612xxxx"},           // as many
		{"12xxxxx", "\x01\x0f\x0e\x0a\x01\x00\x04abcd\x0712x\x81\x01"}, // one byte less
	} {
		s := sealed("b" + c.written)
		checkPage(t, leaf(item("abcd", c.value)), head("S2L\x01"+entry(len(s), "abcd"))+s)
	}
	shorter, same, longer := 0, 0, 0
	for n := range 17 {
		for m := range 17 {
			node := leaf(item("k", strings.Repeat("v", n)), item("l", strings.Repeat("v", m)))
			switch content := basement(node.Items); {
			case len(slowSqueeze(content)) < len(content):
				shorter++
			case len(slowSqueeze(content)) == len(content):
				same++
			default:
				longer++
			}
			checkPage(t, node, pageOf(node))
		}
	}
	if shorter == 0 || same == 0 || longer == 0 {
		t.Errorf("of the sections tried, %d get shorter, %d stay, %d get longer", shorter, same, longer)
	}
}

func TestWriteEdgesOfLeaves(t *testing.T) {
	long, full := strings.Repeat("\xff", 12), distinct(16)
	checkPage(t, leaf(item(long, full)), pageOf(leaf(item(long, full))))
	checkPage(t, leaf(item("\x00", "")), leafOf([]string{"\x00"}, section("b", "\x01\x00\x01\x00\x00")))
	// A key that ends with noughts, and one that has nothing else.
	noughts := strings.Repeat("\x00", 12)
	checkPage(t, leaf(item(noughts[:11], "a"), item(noughts, "b")), pageOf(leaf(item(noughts[:11], "a"), item(noughts, "b"))))
	// The longest that may be: nothing gets shorter, all has its full length.
	var items []api.Item
	for i := range 16 {
		items = append(items, item(string([]byte{byte(i)})+distinct(512)[i*11:i*11+11], distinct(512)[200+i*16:216+i*16]))
	}
	checkPage(t, leaf(items...), pageOf(leaf(items...)))
}

func TestWriteEdgesOfBranches(t *testing.T) {
	for _, c := range []int{0, 1, 127, 128, 300, 16383, 16384, 2097151, 2097152, 268435455, 268435456, 2147483646, 2147483647} {
		n := api.Node{Kind: api.Branch, Children: []int{c}}
		checkPage(t, n, branchOf(1, section("p", number(c)), section("m", "\x00")))
		n = api.Node{Kind: api.Branch, Children: []int{c, c}, Pivots: []string{"p"}}
		checkPage(t, n, pageOf(n))
	}
	// Its children may be the same, and its changes of any key, even over and over.
	n := api.Node{Kind: api.Branch, Children: []int{7, 7, 7, 7}, Pivots: []string{"a", "a\x00", "b"}}
	n.Changes = []api.Change{put("z", ""), put("a", distinct(16)), {Kind: api.Delete, Key: "z"}, {Kind: api.Append, Key: "z", Value: ""}, {Kind: api.Append, Key: strings.Repeat("z", 12), Value: distinct(16)}, {Kind: api.Delete, Key: "z"}}
	m := "\x06" + "\x01\x01z\x00" + "\x01\x01a\x10" + distinct(16) + "\x02\x01z" + "\x03\x01z\x00" + "\x03\x0czzzzzzzzzzzz\x10" + distinct(16) + "\x02\x01z"
	checkPage(t, n, branchOf(4, section("p", "\x07\x07\x07\x07\x01a\x02a\x00\x01b"), section("m", m)))
	// The longest that may be.
	n.Changes = nil
	for i := range 8 {
		n.Changes = append(n.Changes, put(distinct(512)[i*28:i*28+12], distinct(512)[i*28+12:i*28+28]))
	}
	n.Children, n.Pivots = []int{2147483647, 2147483646, 2147483645, 2147483644}, []string{distinct(12), strings.Repeat("\x01", 12), strings.Repeat("\x02", 12)}
	checkPage(t, n, pageOf(n))
}

// Lists that are empty but not nil are no more than nil ones.
func TestWriteOfEmptyLists(t *testing.T) {
	n := api.Node{Kind: api.Leaf, Items: []api.Item{}, Children: []int{}, Pivots: []string{}, Changes: []api.Change{}}
	if s, e := silt.Write(n); s != pageOf(leaf()) || e != api.OK {
		t.Errorf("P3: Write of an empty leaf = %q, %d", s, e)
	}
	n.Kind, n.Children = api.Branch, []int{3}
	if s, e := silt.Write(n); s != pageOf(n) || e != api.OK {
		t.Errorf("P3: Write of a branch with empty lists = %q, %d", s, e)
	}
}

func TestWriteRefusesKindsAndMixtures(t *testing.T) {
	for _, kind := range []int{-1, 0, 3, 4, 257, 258, -255, 1 << 32, 'L', 'I'} {
		checkUnwritten(t, api.Node{Kind: kind})
		checkUnwritten(t, api.Node{Kind: kind, Items: []api.Item{item("a", "x")}})
		checkUnwritten(t, api.Node{Kind: kind, Children: []int{1}})
	}
	for _, n := range []api.Node{leaf(), leaf(item("a", "x"))} {
		for _, other := range []api.Node{{Children: []int{1}}, {Pivots: []string{"a"}}, {Changes: []api.Change{put("a", "x")}}} {
			checkUnwritten(t, api.Node{Kind: api.Leaf, Items: n.Items, Children: other.Children, Pivots: other.Pivots, Changes: other.Changes})
		}
	}
	checkUnwritten(t, api.Node{Kind: api.Branch, Children: []int{1}, Items: []api.Item{item("a", "x")}})
}

func TestWriteRefusesLeaves(t *testing.T) {
	items := anyLeaf(rand.New(rand.NewSource(12)), 40).Items
	for _, n := range []int{17, 18, 20, 40} {
		checkUnwritten(t, leaf(items[:n]...))
	}
	checkUnwritten(t, leaf(make([]api.Item, 1<<20)...))
	for _, bad := range []api.Item{item("", ""), item("", "x"), item(strings.Repeat("k", 13), ""), item(strings.Repeat("k", 1000), ""), item("k", strings.Repeat("v", 17)), item("k", strings.Repeat("v", 300))} {
		checkUnwritten(t, leaf(bad))
		checkUnwritten(t, leaf(bad, item("z", "")))
		checkUnwritten(t, leaf(item("a", ""), bad))
	}
	for _, keys := range []string{"ba", "aa", "abb", "acb", "abcdd", "abced", "abcdefghijklmnno", "abcdefghijklmnpo"} {
		n := leaf()
		for i := range len(keys) {
			n.Items = append(n.Items, item(keys[i:i+1], "v"))
		}
		checkUnwritten(t, n)
	}
	checkUnwritten(t, leaf(item("ab", ""), item("a", "")))
	checkUnwritten(t, leaf(item("\x80", ""), item("\x7f", "")))
}

func TestWriteRefusesBranches(t *testing.T) {
	keys := anyKeys(rand.New(rand.NewSource(13)), 20)
	for children := range 10 {
		for pivots := range 10 {
			n := api.Node{Kind: api.Branch, Children: make([]int, children), Pivots: keys[:pivots]}
			if children < 1 || children > 4 || pivots != children-1 {
				checkUnwritten(t, n)
			}
		}
	}
	checkUnwritten(t, api.Node{Kind: api.Branch, Children: make([]int, 257), Pivots: make([]string, 256)})
	checkUnwritten(t, api.Node{Kind: api.Branch, Children: make([]int, 1<<20), Pivots: make([]string, 1<<20-1)})
	for _, c := range []int{-1, -2147483648, 2147483648, 1 << 32, 1<<32 + 1, -1 << 63, 1<<63 - 1} {
		checkUnwritten(t, api.Node{Kind: api.Branch, Children: []int{c}})
		checkUnwritten(t, api.Node{Kind: api.Branch, Children: []int{1, 2, c}, Pivots: []string{"a", "b"}})
	}
	for _, pivots := range [][]string{{"", "a", "b"}, {"a", "b", strings.Repeat("c", 13)}, {"a", "a", "b"}, {"a", "b", "b"}, {"b", "a", "c"}, {"a", "c", "b"}, {"a", "ab", "a"}} {
		checkUnwritten(t, api.Node{Kind: api.Branch, Children: []int{1, 2, 3, 4}, Pivots: pivots})
	}
}

func TestWriteRefusesChanges(t *testing.T) {
	long := strings.Repeat("x", 17)
	for _, bad := range []api.Change{{}, {Key: "k"}, {Kind: 4, Key: "k"}, {Kind: -1, Key: "k"}, {Kind: 257, Key: "k"}, put("", "v"), put(long[:13], "v"), put("k", long), {Kind: api.Delete}, {Kind: api.Delete, Key: long[:13]}, {Kind: api.Delete, Key: "k", Value: "v"}, {Kind: api.Append, Value: "v"}, {Kind: api.Append, Key: long[:13]}, {Kind: api.Append, Key: "k", Value: long}} {
		for at := range 8 {
			n := api.Node{Kind: api.Branch, Children: []int{1}}
			for range 8 {
				n.Changes = append(n.Changes, put("k", "v"))
			}
			n.Changes[at] = bad
			checkUnwritten(t, n)
			n.Changes = n.Changes[:at+1]
			checkUnwritten(t, n)
		}
	}
	for _, n := range []int{9, 10, 256, 264, 1 << 16} {
		node := api.Node{Kind: api.Branch, Children: []int{1}}
		for range n {
			node.Changes = append(node.Changes, put("k", "v"))
		}
		checkUnwritten(t, node)
	}
}

// spare makes a list with n more elements behind it than it tells, all of them the same.
func spare[T any](list []T, mark T, n int) []T {
	long := append(append([]T{}, list...), make([]T, n)...)
	for i := len(list); i < len(long); i++ {
		long[i] = mark
	}
	return long[:len(list)]
}

// What is handed in is not written into, nor its spare room (P1).
func TestWriteLeavesItsNodeAlone(t *testing.T) {
	for _, n := range someNodes(rand.New(rand.NewSource(14))) {
		mine := api.Node{Kind: n.Kind, Items: spare(n.Items, item("s", "s"), 5), Children: spare(n.Children, 9, 5), Pivots: spare(n.Pivots, "s", 5), Changes: spare(n.Changes, put("s", "s"), 5)}
		silt.Write(mine)
		same := reflect.DeepEqual(mine.Items[:len(n.Items)+5], spare(n.Items, item("s", "s"), 5)[:len(n.Items)+5]) &&
			reflect.DeepEqual(mine.Children[:len(n.Children)+5], spare(n.Children, 9, 5)[:len(n.Children)+5]) &&
			reflect.DeepEqual(mine.Pivots[:len(n.Pivots)+5], spare(n.Pivots, "s", 5)[:len(n.Pivots)+5]) &&
			reflect.DeepEqual(mine.Changes[:len(n.Changes)+5], spare(n.Changes, put("s", "s"), 5)[:len(n.Changes)+5])
		if !same {
			t.Errorf("P1: Write changed its node, which was %+v", n)
		}
	}
}

// The calls may be made from several goroutines at a time (P1).
func TestPagesFromSeveralGoroutines(t *testing.T) {
	nodes := someNodes(rand.New(rand.NewSource(15)))
	var wait sync.WaitGroup
	for range 8 {
		wait.Add(1)
		go func() {
			defer wait.Done()
			for _, n := range nodes {
				checkPage(t, n, pageOf(n))
				checkRenewed(t, sealed(oldOf(n)), n)
			}
		}()
	}
	wait.Wait()
}
