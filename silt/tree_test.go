package silt_test

import (
	"fmt"
	"math/rand"
	"slices"
	"strings"
	"testing"

	"silt/api"
	"silt/silt"
)

func TestNewTree(t *testing.T) {
	tree := silt.New()
	checkTold(t, tree, nil)
	checkGet(t, tree, "a", nil)
	checkImage(t, tree.Image(), nil)
}

// Each change is what the document says, whether the key has a value or not.
func TestMakeEachKind(t *testing.T) {
	full := strings.Repeat("f", 16)
	for _, c := range []struct {
		before, after told
		change        api.Change
	}{
		{told{}, told{"k": "v"}, put("k", "v")},
		{told{}, told{"k": ""}, put("k", "")},
		{told{}, told{"k": full}, put("k", full)},
		{told{"k": "old"}, told{"k": "v"}, put("k", "v")},
		{told{"k": "old"}, told{"k": ""}, put("k", "")},
		{told{}, told{}, remove("k")},
		{told{"k": "old"}, told{}, remove("k")},
		{told{"k": ""}, told{}, remove("k")},
		{told{"kk": "old"}, told{"kk": "old"}, remove("k")},
		{told{}, told{"k": "v"}, add("k", "v")},
		{told{}, told{"k": ""}, add("k", "")},
		{told{}, told{"k": full}, add("k", full)},
		{told{"k": "a"}, told{"k": "ab"}, add("k", "b")},
		{told{"k": "a"}, told{"k": "a"}, add("k", "")},
		{told{"k": full}, told{"k": full}, add("k", "")},
		{told{"k": "0123456789abcdef"}, told{"k": "123456789abcdefg"}, add("k", "g")},
		{told{"k": "0123456789abcde"}, told{"k": "0123456789abcdef"}, add("k", "f")},
		{told{"k": "0123456789abcdef"}, told{"k": full}, add("k", full)},
		{told{"k": "01"}, told{"k": "1" + full[1:]}, add("k", full[1:])},
		{told{"k": "old"}, told{"k": "old", "j": "v"}, put("j", "v")},
	} {
		tree := silt.New()
		for key, value := range c.before {
			checkMade(t, tree, put(key, value))
		}
		checkMade(t, tree, c.change)
		checkTold(t, tree, c.after)
		checkGet(t, tree, "k", c.after)
	}
}

// The last of the document's examples, with changes above a leaf as well as in it.
func TestAppendExamples(t *testing.T) {
	for _, n := range []int{0, 40, 400} {
		tree, want := silt.New(), told{}
		makeBoth := func(c api.Change) {
			checkMade(t, tree, c)
			want.make(c)
		}
		for i := range n {
			makeBoth(put(fmt.Sprintf("n%03d", i), "n"))
		}
		makeBoth(put("a", "a"))
		makeBoth(add("a", "b"))
		if v, e := tree.Get("a"); v != "ab" || e != api.OK {
			t.Errorf("P6: after Append of b to a: %q, %d", v, e)
		}
		makeBoth(put("a", "0123456789abcdef"))
		makeBoth(add("a", "b"))
		if v, e := tree.Get("a"); v != "123456789abcdefb" || e != api.OK {
			t.Errorf("P6: after Append of b to 16 bytes: %q, %d", v, e)
		}
		checkTold(t, tree, want)
	}
}

// someTrees makes a tree in a leaf, one with a few leaves, and one with many.
func someTrees(t *testing.T) map[*silt.Tree]told {
	trees := map[*silt.Tree]told{}
	for _, n := range []int{0, 5, 60, 700} {
		tree, want := silt.New(), told{}
		for i := range n {
			c := put(fmt.Sprintf("%03d", i*37%n), "v")
			checkMade(t, tree, c)
			want.make(c)
		}
		trees[tree] = want
	}
	return trees
}

func TestMakeRefuses(t *testing.T) {
	long, much := strings.Repeat("k", 13), strings.Repeat("v", 17)
	for tree, want := range someTrees(t) {
		image := tree.Image()
		for _, c := range []api.Change{
			{}, {Key: "003"}, {Kind: 4, Key: "003"}, {Kind: -1, Key: "003"}, {Kind: 257, Key: "003"}, {Kind: 1 << 40, Key: "003"},
			put("", "v"), add("", "v"), remove(""), put(long, "v"), add(long, "v"), remove(long), put(strings.Repeat("k", 1<<20), ""),
			put("003", much), add("003", much), put("003", strings.Repeat("v", 1<<20)),
			{Kind: api.Delete, Key: "003", Value: "v"}, {Kind: api.Delete, Key: "003", Value: "\x00"},
		} {
			if e := tree.Make(c); e != api.ErrArg {
				t.Errorf("P6: Make of %d, %.30q, %.30q = %d, want ErrArg", c.Kind, c.Key, c.Value, e)
			}
		}
		checkTold(t, tree, want)
		if !slices.Equal(tree.Image(), image) {
			t.Errorf("P1: changes that were refused changed a tree of %d items", len(want))
		}
	}
}

func TestGetOfNoKey(t *testing.T) {
	for tree, want := range someTrees(t) {
		for _, key := range []string{"", "\x00", "zzz", strings.Repeat("0", 12), strings.Repeat("0", 13), "003" + strings.Repeat("\x00", 10), strings.Repeat("9", 1<<20)} {
			checkGet(t, tree, key, want)
		}
	}
}

func TestScanRanges(t *testing.T) {
	ends := []string{"", "\x00", "0", "000", "003", "0030", "004", "059", "06", "1", "350", "350\x00", "699", "7", "\xff", strings.Repeat("\xff", 100), "003" + strings.Repeat("\x00", 1000)}
	for tree, want := range someTrees(t) {
		for _, from := range ends {
			for _, to := range ends {
				checkScan(t, tree, from, to, want.items(from, to))
			}
		}
	}
}

// Keys are ordered byte by byte, whatever the bytes, a key ahead of those that it begins.
func TestScanOrder(t *testing.T) {
	keys := []string{"\x00", "\x00\x00", "\x00\x01", "\x01", "a", "a\x00", "aa", "ab", "b", "\x7f", "\x7f\xff", "\x80", "\x80\x00", "é", "\xff", "\xff\x00", "\xff\xff", strings.Repeat("\xff", 12)}
	for seed := range int64(20) {
		tree, want := silt.New(), told{}
		for _, at := range rand.New(rand.NewSource(seed)).Perm(len(keys)) {
			checkMade(t, tree, put(keys[at], keys[at]))
			want.make(put(keys[at], keys[at]))
		}
		items, _ := tree.Scan("", "")
		for i, got := range items {
			if got != item(keys[i], keys[i]) {
				t.Fatalf("P6: Scan has %q at %d, want %q", got, i, keys[i])
			}
		}
		for _, from := range keys {
			for _, to := range keys {
				checkScan(t, tree, from, to, want.items(from, to))
			}
		}
	}
}

// sorts of keys, of which one is made for each change: the number of the change, and a random source, are handed in.
var sorts = map[string]func(r *rand.Rand, n int) string{
	"few":          func(r *rand.Rand, n int) string { return string(rune('a' + r.Intn(12))) },
	"many":         func(r *rand.Rand, n int) string { return fmt.Sprint(r.Intn(2000)) },
	"rising":       func(r *rand.Rand, n int) string { return fmt.Sprintf("%06d", n) },
	"falling":      func(r *rand.Rand, n int) string { return fmt.Sprintf("%06d", 999999-n) },
	"a window":     func(r *rand.Rand, n int) string { return fmt.Sprintf("%06d", n+r.Intn(60)) },
	"any":          func(r *rand.Rand, n int) string { return anyBytes(r, 1, 12) },
	"common front": func(r *rand.Rand, n int) string { return "front" + anyBytes(r, 0, 3) },
	"bunches":      func(r *rand.Rand, n int) string { return fmt.Sprintf("%02d%02d", n/40*31%100, r.Intn(100)) },
}

// changeOf makes a change for a key; in each thousand of changes the last ones mostly take away, so that trees grow and shrink.
func changeOf(r *rand.Rand, n int, key string) api.Change {
	if n%1000 > 600 && r.Intn(8) > 0 {
		return remove(key)
	}
	return anyChange(r, key)
}

// anyKeyOf tells one of the keys that have values, or another.
func anyKeyOf(r *rand.Rand, want told, other string) string {
	items := want.items("", "")
	if len(items) == 0 || r.Intn(3) == 0 {
		return other
	}
	return items[r.Intn(len(items))].Key
}

// What Get and Scan tell is what the changes come to, made one by one (P6).
func TestChangesOneByOne(t *testing.T) {
	for name, sort := range sorts {
		t.Run(name, func(t *testing.T) {
			r := rand.New(rand.NewSource(31))
			tree, want := silt.New(), told{}
			for n := range 3000 {
				key := sort(r, n)
				if n%1000 > 600 {
					key = anyKeyOf(r, want, key)
				}
				c := changeOf(r, n, key)
				checkMade(t, tree, c)
				want.make(c)
				checkGet(t, tree, key, want)
				from, to := sort(r, n), sort(r, n)
				checkScan(t, tree, from, to, want.items(from, to))
				if n%50 == 0 {
					checkTold(t, tree, want)
				}
			}
		})
	}
}

// The same once more, with images and loads between (P7, P9); trees do not touch one another (P1).
func TestChangesImagesAndLoads(t *testing.T) {
	for name, sort := range sorts {
		t.Run(name, func(t *testing.T) {
			r := rand.New(rand.NewSource(32))
			tree, want := silt.New(), told{}
			for n := range 2000 {
				key := sort(r, n)
				if n%1000 > 600 {
					key = anyKeyOf(r, want, key)
				}
				c := changeOf(r, n, key)
				checkMade(t, tree, c)
				want.make(c)
				if n%40 > 0 && n > 60 {
					continue
				}
				image := tree.Image()
				checkImage(t, image, want)
				other := checkLoaded(t, image)
				scrub(image, "s")
				checkTold(t, other, want)
				checkMade(t, tree, put("zz", "gone astray"))
				checkMade(t, tree, remove(key))
				checkTold(t, other, want)
				tree = other
			}
			checkTold(t, tree, want)
		})
	}
}

// Changes of one key alone fill all branches on its way, and none is lost or made twice.
func TestChangesOfOneKey(t *testing.T) {
	r := rand.New(rand.NewSource(33))
	for tree, want := range someTrees(t) {
		for n := range 300 {
			c := add("0305", string(rune('a'+n%26)))
			if n%70 == 69 {
				c = anyChange(r, "0305")
			}
			checkMade(t, tree, c)
			want.make(c)
			checkGet(t, tree, "0305", want)
			checkScan(t, tree, "0305", "0306", want.items("0305", "0306"))
		}
		checkTold(t, tree, want)
		checkImage(t, tree.Image(), want)
	}
}

// A tree all of whose items are taken away says nothing, and goes on.
func TestEmptiedTree(t *testing.T) {
	for tree, want := range someTrees(t) {
		for _, i := range want.items("", "") {
			checkMade(t, tree, remove(i.Key))
		}
		checkTold(t, tree, nil)
		checkImage(t, tree.Image(), told{})
		checkTold(t, checkLoaded(t, tree.Image()), nil)
		for _, i := range want.items("", "") {
			checkMade(t, tree, add(i.Key, i.Value))
		}
		checkTold(t, tree, want)
	}
}
