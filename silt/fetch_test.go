package silt_test

import (
	"math/rand"
	"strings"
	"testing"

	"silt/api"
	"silt/silt"
)

// checkFetch holds Fetch against what it should be.
func checkFetch(t *testing.T, page, key, value string, errno api.Errno) {
	t.Helper()
	if v, e := silt.Fetch(page, key); v != value || e != errno {
		t.Errorf("P4: Fetch(%.300q, %.30q) = %q, %d, want %q, %d", page, key, v, e, value, errno)
	}
}

// around tells a key's neighbours, and more beside.
func around(key string) []string {
	last := len(key) - 1
	list := []string{"", "\x00", "\xff", strings.Repeat("\xff", 12), strings.Repeat("\xff", 13), key + "\x00", key + "\xff", key[:last], key + key}
	for _, step := range []byte{1, 255} {
		list = append(list, key[:last]+string([]byte{key[last] + step}))
	}
	return list
}

func TestFetchOfEachKey(t *testing.T) {
	r := rand.New(rand.NewSource(31))
	for range 40 {
		for n := range 17 {
			node := anyLeaf(r, n)
			page, _ := silt.Write(node)
			values := map[string]string{}
			for _, i := range node.Items {
				values[i.Key] = i.Value
				checkFetch(t, page, i.Key, i.Value, api.OK)
			}
			keys := append(anyKeys(r, 20), "", strings.Repeat("k", 13))
			for _, i := range node.Items {
				keys = append(keys, around(i.Key)...)
			}
			for _, key := range keys {
				if _, ok := values[key]; !ok {
					checkFetch(t, page, key, "", api.ErrNone)
				}
			}
		}
	}
}

func TestFetchBetweenKeys(t *testing.T) {
	var items []api.Item
	for i := range 16 {
		items = append(items, item(string([]byte{byte('a' + i), 'm'}), string([]byte{byte('0' + i)})))
	}
	page, _ := silt.Write(leaf(items...))
	for _, i := range items {
		checkFetch(t, page, i.Key, i.Value, api.OK)
		for _, key := range []string{i.Key[:1], i.Key[:1] + "l", i.Key + "\x00", i.Key[:1] + "n"} {
			checkFetch(t, page, key, "", api.ErrNone)
		}
	}
	for _, key := range []string{"", "\x00", "A", "a", "al", "p\xff", "q", "\xff", strings.Repeat("z", 12), strings.Repeat("z", 13), strings.Repeat("b", 1<<20)} {
		checkFetch(t, page, key, "", api.ErrNone)
	}
	checkFetch(t, pageOf(leaf()), "a", "", api.ErrNone)
	checkFetch(t, pageOf(leaf()), "", "", api.ErrNone)
}

// An empty value is a value.
func TestFetchOfEmptyValues(t *testing.T) {
	page := pageOf(leaf(item("a", ""), item("b", "x")))
	checkFetch(t, page, "a", "", api.OK)
	checkFetch(t, page, "aa", "", api.ErrNone)
}

func TestFetchRefusesPages(t *testing.T) {
	keys := []string{"", "A", "aa", "b", "ca", "z"}
	refused := func(page string) {
		t.Helper()
		for _, key := range keys {
			checkFetch(t, page, key, "", api.ErrForm)
		}
	}
	good := pageOf(leaf(append(fourItems("a"), fourItems("c")...)...))
	for end := range len(good) {
		refused(good[:end])
	}
	refused(good + "\x00")
	refused(good + good)
	r := rand.New(rand.NewSource(32))
	refused(pageOf(anyBranch(r, 1, 0)))
	refused(pageOf(anyBranch(r, 4, 8)))
	refused(sealed(oldOf(leaf(fourItems("a")...))))
	for _, s := range []string{
		head("S2M"), head("S1L"), head("S2I"), head(""), head("S2L\x00\x01"), head("S2L" + strings.Repeat("\x00", 60) + "\x01"), head("S2L\x05"), head("S2L\xff"), head("S2L\x01"),
		head("S2L\x05"+strings.Repeat("\x01\x00\x01a"+strings.Repeat("\x00", 11), 4)) + "?????",
		head("S2L\x01"+two(1)+"\x00") + "?", head("S2L\x01"+two(1)+"\x0daa") + "?", head("S2L\x01"+two(1)+"\xff") + "?",
		head("S2L\x01"+entry(1, "a")[:4]+"x") + "?", head("S2L\x01"+entry(1, "a")[:14]+"x") + "?", head("S2L\x01"+entry(1, "a")+"x") + "?", head("S2L\x01"+entry(1, "a")+entry(0, "b")) + "?", head("S2L\x01"+entry(1, "a")+entry(1, "")) + "?",
		head("S2L\x02"+entry(1, "a")+entry(1, "a")) + "??", head("S2L\x02"+entry(1, "b")+entry(1, "a")) + "??", head("S2L\x03"+entry(1, "a")+entry(1, "c")+entry(1, "b")) + "???", head("S2L\x02"+entry(1, "aa")+entry(1, "a")) + "??",
		head("S2L\x01" + entry(1, "a")), head("S2L\x01"+entry(1, "a")) + "??", head("S2L\x02"+entry(1, "a")+entry(256, "b")) + "??", head("S2L\x02"+entry(0, "a")+entry(0, "b")) + "?",
		head("S2L\x01" + entry(1, "a"))[:64] + "\x00\x00\x00\x00?", good[:64] + head("S2L")[64:] + good[68:],
	} {
		refused(s)
	}
}

// The lengths may be any, if the page has just as many bytes; what is ahead of all first keys needs no section at all.
func TestFetchLooksAtOneSectionAlone(t *testing.T) {
	good := section("b", basement(fourItems("b")))
	for _, spoilt := range []string{"", "?", "???", strings.Repeat("?", 65535), section("b", "\x00"), sealed("b\x00\x06\x06"), good[:len(good)-1] + "?", section("p", basement(fourItems("b")))} {
		page := leafOf([]string{"aa", "ba", "ca"}, spoilt, good, spoilt)
		for _, i := range fourItems("b") {
			checkFetch(t, page, i.Key, i.Value, api.OK)
			checkFetch(t, page, i.Key+"x", "", api.ErrNone)
		}
		for _, key := range []string{"", "a", "A"} {
			checkFetch(t, page, key, "", api.ErrNone)
		}
		for _, key := range []string{"aa", "ab", "b", "ca", "cb", "z", strings.Repeat("z", 50)} {
			checkFetch(t, page, key, "", api.ErrForm)
		}
		checkUnread(t, page)
	}
}

// A basement of fewer than four items does, even if it isn't the last.
func TestFetchOfBasementsOfAllSizes(t *testing.T) {
	for n := 1; n <= 4; n++ {
		page := leafOf([]string{"aa", "ba"}, section("b", basement(fourItems("a")[:n])), section("b", basement(fourItems("b")[:5-n])))
		for i, one := range append(fourItems("a"), fourItems("b")...) {
			if i < n || i >= 4 && i < 4+5-n {
				checkFetch(t, page, one.Key, one.Value, api.OK)
			} else {
				checkFetch(t, page, one.Key, "", api.ErrNone)
			}
		}
	}
}

func TestFetchRefusesSections(t *testing.T) {
	content := "\x01\x00\x01a\x01x"
	good := "b\x00\x06\x06" + content
	checkFetch(t, leafOfOne(sealed(good)), "a", "x", api.OK)
	for _, s := range []string{
		"", "b", good[:9], good + "\x00", "p" + good[1:], "b\x01\x06\x06" + content, "b\x02\x06\x06" + content, "b\x01\x06\x07" + silt.Squeeze(content),
		"b\x00\x05\x06" + content, "b\x00\x06\x05" + content, "b\x00\x06\x07" + content, "b\x00\x86\x00\x06" + content, "b\x00\x06\x86\x00" + content, "b\x00\x06\xff\xff\xff\xff\x07" + content,
		"b\x01\x15" + text("\x04\x01\x00\x01a\x10\x00x\x8c\x01"), "b\x00\x15" + text("\x01\x00\x01a\x10"+strings.Repeat("x", 16)),
	} {
		checkFetch(t, leafOfOne(sealed(s)), "a", "", api.ErrForm)
		checkFetch(t, leafOfOne(sealed(s)), "b", "", api.ErrForm)
		checkFetch(t, leafOfOne(sealed(s)), "A", "", api.ErrNone)
	}
	for _, c := range []string{
		"", "\x00", "\x02" + content[1:], content + "\x00", "\x01\x00\x01b\x01x", "\x01\x01\x01a\x01x", "\x01\x00\x00\x01x",
		"\x02\x00\x01a\x01x\x00\x02ab\x01y", "\x02\x00\x01a\x01x\x01\x00\x01y", "\x02\x00\x01a\x01x\x02\x01b\x00", "\x02\x00\x02ab\x00\x01\x00\x00", "\x03\x00\x01a\x00\x00\x01c\x00\x00\x01b\x00",
		"\x01\x00\x01a\x11" + strings.Repeat("y", 17), "\x02\x00\x01a\x00\x00\x0d" + strings.Repeat("y", 13) + "\x00", "\x01\x00\x81\x00a\x01x", "\x01\x00\x01a\x81\x00x",
		"\x05\x00\x01a\x00\x00\x01b\x00\x00\x01c\x00\x00\x01d\x00\x00\x01e\x00", strings.Repeat("\x00", 60000), strings.Repeat("\x00", 2000000),
	} {
		checkFetch(t, leafOfOne(section("b", c)), "a", "", api.ErrForm)
		checkFetch(t, leafOfOne(section("b", c)), "b", "", api.ErrForm)
	}
}

// loose is a leaf of basements that may not belong together.
type loose struct {
	firsts []string
	lists  [][]api.Item
}

func (l loose) page() string {
	var sections []string
	for _, list := range l.lists {
		sections = append(sections, section("b", basement(list)))
	}
	return leafOf(l.firsts, sections...)
}

// holds tells whether a basement is such as Fetch takes.
func (l loose) holds(number int) bool {
	var keys []string
	for _, i := range l.lists[number] {
		keys = append(keys, i.Key)
	}
	if len(keys) < 1 || len(keys) > 4 || !isRising(keys) || keys[0] != l.firsts[number] {
		return false
	}
	return number+1 == len(l.firsts) || keys[len(keys)-1] < l.firsts[number+1]
}

func (l loose) fetch(key string) (string, api.Errno) {
	if !isRising(l.firsts) {
		return "", api.ErrForm
	}
	number := -1
	for i, first := range l.firsts {
		if strings.Compare(first, key) <= 0 {
			number = i
		}
	}
	if number < 0 {
		return "", api.ErrNone
	}
	if !l.holds(number) {
		return "", api.ErrForm
	}
	for _, i := range l.lists[number] {
		if i.Key == key {
			return i.Value, api.OK
		}
	}
	return "", api.ErrNone
}

// node tells the leaf, if it is one.
func (l loose) node() (n api.Node, ok bool) {
	n = leaf()
	for i, list := range l.lists {
		if !l.holds(i) || i+1 < len(l.lists) && len(list) < 4 {
			return n, false
		}
		n.Items = append(n.Items, list...)
	}
	return n, isRising(l.firsts)
}

// anyLoose makes basements, most of which are as they should be.
func anyLoose(r *rand.Rand, letters string) loose {
	var l loose
	word := func() string {
		s := ""
		for range 1 + r.Intn(2) {
			s += letters[r.Intn(len(letters)):][:1]
		}
		return s
	}
	for range r.Intn(5) {
		var list []api.Item
		for range r.Intn(6) {
			list = append(list, item(word(), word()))
			if n := len(list); n > 1 && r.Intn(8) > 0 && list[n-1].Key <= list[n-2].Key {
				list = list[:n-1]
			}
		}
		first := word()
		if len(list) > 0 && r.Intn(8) > 0 {
			first = list[0].Key
		}
		if n := len(l.firsts); n > 0 && first <= l.firsts[n-1] && r.Intn(8) > 0 {
			continue
		}
		l.firsts, l.lists = append(l.firsts, first), append(l.lists, list)
	}
	return l
}

func TestFetchAndReadOfLooseBasements(t *testing.T) {
	r := rand.New(rand.NewSource(33))
	got := map[api.Errno]int{}
	nodes := 0
	for range 4000 {
		l := anyLoose(r, "abcdefgh")
		page := l.page()
		for _, key := range append([]string{"", "a", "d", "dd", "h", "z"}, l.firsts...) {
			value, e := l.fetch(key)
			checkFetch(t, page, key, value, e)
			got[e]++
		}
		for _, list := range l.lists {
			for _, i := range list {
				value, e := l.fetch(i.Key)
				checkFetch(t, page, i.Key, value, e)
				got[e]++
			}
		}
		if n, ok := l.node(); ok {
			checkPage(t, n, page)
			nodes++
		} else {
			checkUnread(t, page)
		}
	}
	if got[api.OK] < 1000 || got[api.ErrForm] < 1000 || got[api.ErrNone] < 1000 || nodes < 300 {
		t.Errorf("too few of some answers were tried: %v, %d nodes", got, nodes)
	}
}
