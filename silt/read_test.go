package silt_test

import (
	"math/rand"
	"reflect"
	"strings"
	"testing"
	"unsafe"

	"silt/api"
	"silt/silt"
)

// checkUnread holds Read of what is no node's page. Renew does not take it either, unless it is an old one.
func checkUnread(t *testing.T, page string) {
	t.Helper()
	if n, e := silt.Read(page); !reflect.DeepEqual(n, api.Node{}) || e != api.ErrForm {
		t.Errorf("P3: Read(%.200q) = %+v, %d, want nothing, ErrForm", page, n, e)
	}
	if strings.HasPrefix(page, "S1") {
		return
	}
	if s, e := silt.Renew(page); s != "" || e != api.ErrForm {
		t.Errorf("P5: Renew(%.200q) = %q, %d, want nothing, ErrForm", page, s, e)
	}
}

// checkReadSound holds Read of what may be a node's page or not: by the page of the node that it tells.
func checkReadSound(t *testing.T, page string) {
	t.Helper()
	n, e := silt.Read(page)
	switch {
	case e == api.OK && (n.Kind == api.Leaf || n.Kind == api.Branch) && pageOf(n) == page:
	case e == api.ErrForm && reflect.DeepEqual(n, api.Node{}):
	default:
		t.Fatalf("P3: Read(%q) = %+v, %d", page, n, e)
	}
}

// leafOfOne writes a leaf's page of one section, its first key being a.
func leafOfOne(s string) string { return leafOf([]string{"a"}, s) }

func TestReadRefusesWhatIsCutOrLonger(t *testing.T) {
	r := rand.New(rand.NewSource(21))
	for _, n := range []api.Node{leaf(), leaf(item("a", "x")), anyLeaf(r, 4), anyLeaf(r, 5), anyLeaf(r, 16), anyBranch(r, 1, 0), anyBranch(r, 4, 8)} {
		page := pageOf(n)
		for end := range len(page) {
			checkUnread(t, page[:end])
			checkUnread(t, page[end+1:])
		}
		for _, more := range []string{"\x00", "x", page, strings.Repeat("\x00", 1000)} {
			checkUnread(t, page+more)
			checkUnread(t, more+page)
		}
	}
	checkUnread(t, strings.Repeat("S2L", 1<<20))
	checkUnread(t, head("S2L")+strings.Repeat("x", 1<<22))
}

func TestReadRefusesOtherLetters(t *testing.T) {
	for _, s := range []string{"", "S2M", "S3L", "S1L", "S1I", "s2L", "T2L", "S2l", "S2i", "S22", "L2S", "\x00\x00\x00"} {
		checkUnread(t, head(s))
	}
	checkUnread(t, head("S2I"))
	one := section("b", "\x01\x00\x01a\x01x")
	p, m := section("p", "\x05"), section("m", "\x00")
	checkUnread(t, head("S2I\x01"+entry(len(one), "a"))+one)
	checkUnread(t, head("S2L\x01"+two(len(p))+two(len(m)))+p+m)
	checkUnread(t, head("S3L\x01"+entry(len(one), "a"))+one)
	checkUnread(t, head("S2i\x01"+two(len(p))+two(len(m)))+p+m)
	// A check that is not the right one, though all else is.
	checkUnread(t, head("S2L")[:64]+"\x00\x00\x00\x00")
	checkUnread(t, head("S2L")[:64]+head("S2I")[64:])
}

func TestReadRefusesFirstBytesOfLeaves(t *testing.T) {
	a, b := section("b", basement(fourItems("a"))), section("b", basement(fourItems("b")))
	sizeA, sizeB := len(a), len(b)
	checkPage(t, leaf(append(fourItems("a"), fourItems("b")...)...), head("S2L\x02"+entry(sizeA, "aa")+entry(sizeB, "ba"))+a+b)
	for _, first := range []string{
		entry(sizeA, "aa") + entry(sizeB, "bb"), entry(sizeA, "a") + entry(sizeB, "ba"), entry(sizeA, "aa") + entry(sizeB, "ae"), entry(sizeA, "aa") + entry(sizeB, "ba\x00"), // another first key
		entry(sizeA, "ba") + entry(sizeB, "aa"), entry(sizeA, "aa") + entry(sizeB, "aa"), // not rising
		entry(sizeA+1, "aa") + entry(sizeB-1, "ba"), entry(sizeA, "aa") + entry(sizeB+1, "ba"), entry(sizeA, "aa") + entry(sizeB-1, "ba"), entry(sizeA, "aa") + "\xff\xff\x02ba", // other lengths
		entry(sizeA, "aa") + entry(sizeB, "ba") + "\x01", entry(sizeA, "aa") + entry(sizeB, "ba") + strings.Repeat("\x00", 29) + "\x01", // no noughts behind
		entry(sizeA, "aa")[:14] + "\x01" + entry(sizeB, "ba"), entry(sizeA, "aa") + entry(sizeB, "ba")[:5] + "x",
		entry(sizeA, "aa") + two(sizeB) + "\x00", entry(sizeA, "aa") + two(sizeB) + "\x0dba", entry(sizeA, "aa") + two(sizeB) + "\xffba", // no first key
	} {
		checkUnread(t, head("S2L\x02"+first)+a+b)
	}
	for _, count := range []string{"\x00", "\x01", "\x03", "\x04", "\x05", "\xff"} {
		checkUnread(t, head("S2L"+count+entry(sizeA, "aa")+entry(sizeB, "ba"))+a+b)
		checkUnread(t, head("S2L"+count+entry(sizeA, "aa")+entry(sizeB, "ba"))+a)
	}
	for _, s := range []string{
		head("S2L\x02"+entry(sizeB, "ba")+entry(sizeA, "aa")) + b + a, head("S2L\x02"+entry(sizeA, "aa")+entry(sizeA, "aa")) + a + a, head("S2L\x02"+entry(sizeA, "aa")+entry(sizeB, "ba")) + b + a,
		head("S2L\x00\x01"), head("S2L\x00" + strings.Repeat("\x00", 59) + "\x01"), head("S2L\x01"), head("S2L\x04"),
	} {
		checkUnread(t, s)
	}
}

// fourItems makes the items of a full basement, their keys beginning with a text.
func fourItems(front string) []api.Item {
	return []api.Item{item(front+"a", "1"), item(front+"b", ""), item(front+"c", "333"), item(front+"d", "4")}
}

// Each basement but the last is full.
func TestReadRefusesOtherBasements(t *testing.T) {
	all := append(fourItems("a"), append(fourItems("b"), fourItems("c")...)...)
	for cut := 1; cut < 8; cut++ {
		for end := cut + 1; end <= min(cut+5, len(all)); end++ {
			s := leafOf([]string{all[0].Key, all[cut].Key}, section("b", basement(all[:cut])), section("b", basement(all[cut:end])))
			if cut == 4 && end <= 8 {
				checkPage(t, leaf(all[:end]...), s)
			} else {
				checkUnread(t, s)
			}
		}
	}
	full, none := section("b", basement(all[:4])), section("b", "\x00")
	checkUnread(t, leafOf([]string{"aa", "b"}, full, none))
	checkUnread(t, leafOf([]string{"a", "aa"}, none, full))
	checkUnread(t, leafOf([]string{"a"}, none))
	checkUnread(t, leafOf([]string{"a"}, ""))
	checkUnread(t, leafOf([]string{"aa", "b"}, full, ""))
	// Keys that reach over into the next basement.
	for _, key := range []string{"b", "ba", "c"} {
		list := append(append([]api.Item{}, all[:3]...), item(key, ""))
		checkUnread(t, leafOf([]string{"aa", "b"}, section("b", basement(list)), section("b", basement([]api.Item{item("b", "")}))))
	}
}

func TestReadRefusesItems(t *testing.T) {
	good := "\x02\x00\x01a\x01x\x01\x01b\x01y"
	checkPage(t, leaf(item("a", "x"), item("ab", "y")), leafOfOne(section("b", good)))
	long := func(n int) string { return strings.Repeat("y", n) }
	for _, content := range []string{
		"", "\x00", good[:1], good[:len(good)-1], good + "\x00", "\x01" + good[1:], "\x03" + good[1:], "\xff" + good[1:], // another number
		"\x02\x00\x01a\x01x\x00\x02ab\x01y", "\x02\x00\x02ab\x01x\x00\x02ac\x01x", "\x02\x00\x02ab\x01x\x00\x02ac\x01x", // a front that is not told whole
		"\x02\x00\x01a\x01x\x02\x01b\x00", "\x02\x00\x01a\x01x\xff\x01b\x00", "\x01\x01\x01a\x01x", "\x01\x01\x00\x01x", "\x01\xff\x01a\x01x", // a front that is not there
		"\x02\x00\x01a\x01x\x01\x00\x01y", "\x02\x00\x01b\x01x\x00\x01a\x01y", "\x03\x00\x01a\x00\x00\x01c\x00\x00\x01b\x00", "\x02\x00\x02aa\x00\x01\x00\x00", // not rising
		"\x01\x00\x00\x01x", "\x01\x00\x0da" + long(12) + "\x01x", "\x02\x00\x0ca" + long(11) + "\x00\x0c\x01z\x00", // no keys
		"\x01\x00\x01a\x11" + long(17), "\x01\x00\x01a\x7f" + long(127), "\x01\x00\x01a\x80\x01" + long(128), // no values
		"\x01\x00\x81\x00a\x01x", "\x01\x00\x01a\x81\x00x", "\x01\x00\x01a\x80\x00", "\x01\x00\x01a\x81\x80\x00x", // lengths of too many bytes
		"\x01\x00\x01a\x02x", "\x01\x00\x03a\x01x", "\x01\x00\x01a\xff\xff\xff\xff\x07x", "\x01\x00\xff\xff\xff\xff\xffa", "\x01\x00\x01a", "\x01\x00", "\x01", // cut
		"\x05\x00\x01a\x00\x00\x01b\x00\x00\x01c\x00\x00\x01d\x00\x00\x01e\x00", // too many
		"\x01\x00\x01b\x01x", // another first key
	} {
		checkUnread(t, leafOfOne(section("b", content)))
	}
}

func TestReadRefusesSections(t *testing.T) {
	content := "\x01\x00\x01a\x01x"
	good := "b\x00\x06\x06" + content
	checkPage(t, leaf(item("a", "x")), leafOfOne(sealed(good)))
	for _, s := range []string{
		"", "b", "b\x00", "b\x00\x06", "b\x00\x06\x06", good[:9], good + "\x00", good + good, "x" + good, good[1:], // cut, or with more
		"p" + good[1:], "m" + good[1:], "B" + good[1:], "\x00" + good[1:], // other kinds
		"b\x02\x06\x06" + content, "b\xff\x06\x06" + content, "b\x01\x06\x06" + content, // written otherwise
		"b\x01\x06\x07" + silt.Squeeze(content), "b\x00\x06\x07" + silt.Squeeze(content),
		"b\x00\x05\x06" + content, "b\x00\x07\x06" + content, "b\x00\x06\x05" + content, "b\x00\x06\x07" + content, "b\x00\x06\x00" + content, "b\x00\x00\x06" + content, // other lengths
		"b\x00\x86\x00\x06" + content, "b\x00\x06\x86\x00" + content, "b\x00\xff\xff\xff\xff\x07\x06" + content, "b\x00\x06\xff\xff\xff\xff\x07" + content, "b\x00\x06\xff\xff\xff\xff\xff\xff" + content,
		strings.Repeat("b\x00\x06\x06"+content, 3000),
	} {
		checkUnread(t, leafOfOne(sealed(s)))
		checkUnread(t, leafOfOne(s))
	}
	checkUnread(t, leafOfOne(sealed(good)[:13]))
	checkUnread(t, leafOfOne(sealed(good)+"\x00"))
	checkUnread(t, leafOfOne(good+"\x00\x00\x00\x00"))
	checkUnread(t, leafOfOne(sealed(sealed(good))))
}

// What gets shorter is squeezed, and in no other way than Squeeze's.
func TestReadRefusesOtherSqueezing(t *testing.T) {
	content := "\x01\x00\x01a\x10" + strings.Repeat("x", 16)
	squeezed := slowSqueeze(content)
	n := leaf(item("a", strings.Repeat("x", 16)))
	checkPage(t, n, leafOfOne(sealed("b\x01\x15"+text(squeezed))))
	for _, s := range []string{
		"b\x00\x15" + text(content), "b\x00\x15" + text(squeezed), "b\x02\x15" + text(squeezed),
		"b\x01\x14" + text(squeezed), "b\x01\x16" + text(squeezed), "b\x01" + one(len(squeezed)) + text(squeezed),
		"b\x01\x15" + text("\x04\x01\x00\x01a\x10\x00x\x8c\x01"),  // two runs
		"b\x01\x15" + text("\x06\x01\x00\x01a\x10xx\x8b\x01"),     // a match that comes late
		"b\x01\x15" + text("\x05\x01\x00\x01a\x10x\x8b\x01\x00x"), // a match that is too short
		"b\x01\x15" + text("\x05\x01\x00\x01a\x10x\x8c"), "b\x01\x15" + text("\x05\x01\x00\x01a\x10x\x8c\x07"), "b\x01\x15" + text("\x05\x01\x00\x01a\x10x\x8c\x00"),
		"b\x01\x15" + text(squeezed+"\x00"), "b\x01\x15" + text(squeezed) + "\x00",
	} {
		checkUnread(t, leafOfOne(sealed(s)))
	}
	// A content that gets long by squeezing.
	checkUnread(t, leafOfOne(section("b", strings.Repeat("\x00", 60000))))
	checkUnread(t, leafOfOne(section("b", strings.Repeat("\x00", 1<<20))))
}

func TestReadRefusesBranches(t *testing.T) {
	p, m := section("p", "\x05\x06\x01k"), section("m", "\x01\x01\x01k\x01v")
	n := api.Node{Kind: api.Branch, Children: []int{5, 6}, Pivots: []string{"k"}, Changes: []api.Change{put("k", "v")}}
	checkPage(t, n, branchOf(2, p, m))
	for _, s := range []string{
		branchOf(0, p, m), branchOf(1, p, m), branchOf(3, p, m), branchOf(4, p, m), branchOf(5, p, m), branchOf(255, p, m), // another number of children
		branchOf(2, m, p), branchOf(2, p, p), branchOf(2, m, m), branchOf(2, "", m), branchOf(2, p, ""), branchOf(2, section("b", "\x05\x06\x01k"), m), branchOf(2, p, section("b", "\x01\x01\x01k\x01v")), // other sections
		branchOf(2, p, m) + "\x00", branchOf(2, p, m)[:67] + p + m, // other lengths
		head("S2I\x02"+two(len(p)+1)+two(len(m)-1)) + p + m, head("S2I\x02"+two(len(p))+two(len(m)+1)) + p + m, head("S2I\x02"+two(len(p)-1)+two(len(m))) + p + m, head("S2I\x02\xff\xff\xff\xff") + p + m,
		head("S2I\x02"+two(len(p))+two(len(m))+"\x01") + p + m, head("S2I\x02"+two(len(p))+two(len(m))+strings.Repeat("\x00", 55)+"\x01") + p + m, // no noughts behind
		branchOf(2, p, m)[:64] + "\x00\x00\x00\x00" + p + m, // another check
	} {
		checkUnread(t, s)
	}
}

func TestReadRefusesChildren(t *testing.T) {
	m := section("m", "\x00")
	for count, contents := range map[int][]string{
		0: {"", "\x05", "\x00"},
		1: {"", "\x05\x06", "\x05\x00", "\x05\x01a", "\x80", "\x85\x00", "\x80\x80\x80\x80\x08", "\xff\xff\xff\xff\x0f", "\xff\xff\xff\xff\xff\xff\xff\xff\xff\x01"},
		2: {"\x05", "\x05\x06", "\x05\x06\x00", "\x05\x06\x01", "\x05\x06\x02a", "\x05\x06\x01a\x01b", "\x05\x06\x81\x00a", "\x05\x86\x00\x01a", "\x05\x06\x0d" + distinct(13), "\x05\x01a"},
		3: {"\x05\x06\x07\x01a\x01a", "\x05\x06\x07\x01b\x01a", "\x05\x06\x07\x02aa\x01a", "\x05\x06\x07\x01a", "\x05\x06\x07\x01a\x00", "\x05\x06\x07\x00\x01a"},
		4: {"\x05\x06\x07\x08\x01a\x01c\x01b", "\x05\x06\x07\x08\x01b\x01a\x01c", "\x05\x06\x07\x08\x01a\x01b"},
		5: {"\x05\x06\x07\x08\x09\x01a\x01b\x01c\x01d", "\x05\x06\x07\x08\x01a\x01b\x01c"},
	} {
		for _, content := range contents {
			checkUnread(t, branchOf(count, section("p", content), m))
		}
	}
}

func TestReadRefusesChanges(t *testing.T) {
	p := section("p", "\x05")
	for _, content := range []string{
		"", "\x01", "\x00\x00", "\x01\x01", "\x01\x01\x01k", "\x01\x01\x01k\x01", "\x01\x01\x01k\x01v\x00", "\x02\x01\x01k\x01v", "\x00\x01\x01k\x01v", // another number
		"\x01\x00\x01k\x00", "\x01\x04\x01k\x00", "\x01\xff\x01k\x00", "\x01\x04\x01k", // another kind
		"\x01\x02\x01k\x00", "\x01\x02\x01k\x01v", "\x01\x02\x00", "\x01\x02", // what Delete has not
		"\x01\x01\x00\x01v", "\x01\x03\x00\x01v", "\x01\x01\x0d" + distinct(13) + "\x00", "\x01\x02\x0d" + distinct(13), "\x01\x01\x01k\x11" + distinct(17), "\x01\x03\x01k\x11" + distinct(17), // no key or value
		"\x01\x01\x81\x00k\x00", "\x01\x01\x01k\x80\x00", "\x01\x01\x01k\x81\x00v", // lengths of too many bytes
		"\x09" + strings.Repeat("\x02\x01k", 9), "\xff" + strings.Repeat("\x02\x01k", 255), // too many
	} {
		checkUnread(t, branchOf(1, p, section("m", content)))
	}
	eight := api.Node{Kind: api.Branch, Children: []int{5}}
	for range 8 {
		eight.Changes = append(eight.Changes, api.Change{Kind: api.Delete, Key: "k"})
	}
	checkPage(t, eight, branchOf(1, p, section("m", "\x08"+strings.Repeat("\x02\x01k", 8))))
}

// touched changes a byte, lays one in or leaves one out.
func touched(r *rand.Rand, s string) string {
	if s == "" {
		return string([]byte{byte(r.Intn(256))})
	}
	at := r.Intn(len(s))
	b := byte(r.Intn(256)) >> r.Intn(8)
	switch r.Intn(4) {
	case 0:
		return s[:at] + string([]byte{b}) + s[at:]
	case 1:
		return s[:at] + s[at+1:]
	case 2:
		return s[:at] + string([]byte{s[at] + 1 - byte(r.Intn(2))*2}) + s[at+1:]
	}
	return s[:at] + string([]byte{b}) + s[at+1:]
}

// Contents, sections and first bytes in which something was touched ahead of their checks: each is refused or another node's page.
func TestReadOfWhatWasTouched(t *testing.T) {
	r := rand.New(rand.NewSource(22))
	for range 600 {
		for _, n := range []api.Node{anyLeaf(r, 1+r.Intn(4)), anyLeaf(r, 5+r.Intn(12)), anyBranch(r, 1+r.Intn(4), r.Intn(9))} {
			page := pageOf(n)
			ends := partsOf(page)
			checkReadSound(t, touched(r, page))
			checkReadSound(t, sealed(touched(r, page[:64]) + "????")[:68]+page[68:])
			first := []byte(page[:64])
			first[r.Intn(64)] ^= 1 << r.Intn(8)
			checkReadSound(t, sealed(string(first))+page[68:])
			last := page[ends[len(ends)-2]:]
			checkReadSound(t, page[:len(page)-len(last)]+sealed(touched(r, last[:len(last)-4])))
			if n.Kind == api.Branch {
				checkReadSound(t, branchOf(len(n.Children), section("p", touched(r, childrenOf(n))), section("m", changesOf(n.Changes))))
				checkReadSound(t, branchOf(len(n.Children), section("p", childrenOf(n)), section("m", touched(r, changesOf(n.Changes)))))
			} else if len(n.Items) <= 4 {
				checkReadSound(t, leafOf([]string{n.Items[0].Key}, section("b", touched(r, basement(n.Items)))))
			}
		}
	}
}

// Whatever the bytes, the calls end without a panic (P1).
func TestPagesOfAnything(t *testing.T) {
	r := rand.New(rand.NewSource(23))
	for range 2000 {
		b := make([]byte, r.Intn(120))
		for i := range b {
			b[i] = byte(r.Intn(256)) >> r.Intn(8)
		}
		for _, s := range []string{string(b), sealed(string(b)), "S2L" + string(b), "S2I" + string(b), head("S2L" + string(b[:min(len(b), 61)])), head("S2I" + string(b[:min(len(b), 61)])), sealed("S1L" + string(b)), sealed("S1I" + string(b)), leafOfOne(sealed(string(b))), leafOfOne(section("b", string(b))), branchOf(2, section("p", string(b)), section("m", "\x00"))} {
			checkReadSound(t, s)
			if u, e := silt.Fetch(s, "a"); e != api.OK && u != "" {
				t.Errorf("P1: Fetch(%q) = %q, %d", s, u, e)
			}
			if u, e := silt.Renew(s); e == api.OK && len(u) < 68 || e != api.OK && u != "" {
				t.Errorf("P1: Renew(%q) = %q, %d", s, u, e)
			}
		}
	}
}

// scrub writes into all of a list, its spare room too.
func scrub[T any](list []T, mark T) {
	list = list[:cap(list)]
	for i := range list {
		list[i] = mark
	}
}

// What comes out is new memory: no two lists share any, and what is read later is not changed by writing into them (P1).
func TestReadTellsNewMemory(t *testing.T) {
	for _, n := range someNodes(rand.New(rand.NewSource(24))) {
		page := pageOf(n)
		first, _ := silt.Read(page)
		second, _ := silt.Read(page)
		scrub(first.Items, item("s", "s"))
		scrub(first.Children, -9)
		scrub(first.Pivots, "s")
		scrub(first.Changes, put("s", "s"))
		third, _ := silt.Read(page)
		if !reflect.DeepEqual(second, n) || !reflect.DeepEqual(third, n) {
			t.Errorf("P1: writing into what Read answered changed another answer, %+v or %+v, of %+v", second, third, n)
		}
	}
}

// within tells whether a text's bytes lie in another's memory.
func within(s, whole string) bool {
	if s == "" || whole == "" {
		return false
	}
	at, start := uintptr(unsafe.Pointer(unsafe.StringData(s))), uintptr(unsafe.Pointer(unsafe.StringData(whole)))
	return start <= at && at < start+uintptr(len(whole))
}

// Nothing of a page is kept: not even texts lie in its memory (P1).
func TestNothingOfAPageIsKept(t *testing.T) {
	for _, n := range someNodes(rand.New(rand.NewSource(26))) {
		page := pageOf(n)
		got, _ := silt.Read(page)
		texts := append([]string{}, got.Pivots...)
		for _, i := range got.Items {
			value, _ := silt.Fetch(page, i.Key)
			texts = append(texts, i.Key, i.Value, value)
		}
		for _, c := range got.Changes {
			texts = append(texts, c.Key, c.Value)
		}
		renewed, _ := silt.Renew(page)
		for _, s := range append(texts, renewed) {
			if within(s, page) {
				t.Errorf("P1: %q lies in the memory of the page of %+v", s, n)
			}
		}
	}
}

// A leaf's answer has nothing of a branch's, nor the other way round.
func TestReadTellsOneKindAlone(t *testing.T) {
	for _, n := range someNodes(rand.New(rand.NewSource(25))) {
		got, _ := silt.Read(pageOf(n))
		if n.Kind == api.Leaf && (got.Children != nil || got.Pivots != nil || got.Changes != nil) || n.Kind == api.Branch && got.Items != nil {
			t.Errorf("P3: Read of %+v tells %+v", n, got)
		}
	}
}
