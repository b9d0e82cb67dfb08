package silt_test

import (
	"math/rand"
	"strings"
	"testing"

	"silt/api"
	"silt/silt"
)

// checkRenewed holds Renew of a page of a node.
func checkRenewed(t *testing.T, page string, n api.Node) {
	t.Helper()
	if s, e := silt.Renew(page); s != pageOf(n) || e != api.OK {
		t.Errorf("P5: Renew(%q) = %q, %d, want %q", page, s, e, pageOf(n))
	}
}

// checkUnrenewed holds Renew of what is no page of any node.
func checkUnrenewed(t *testing.T, page string) {
	t.Helper()
	if s, e := silt.Renew(page); s != "" || e != api.ErrForm {
		t.Errorf("P5: Renew(%.200q) = %q, %d, want nothing, ErrForm", page, s, e)
	}
}

func TestRenewOfAllSizes(t *testing.T) {
	r := rand.New(rand.NewSource(41))
	for range 20 {
		for _, n := range someNodes(r) {
			checkRenewed(t, sealed(oldOf(n)), n)
			checkRenewed(t, pageOf(n), n)
			// Neither Read nor Fetch takes an old page.
			checkUnread(t, sealed(oldOf(n)))
			checkFetch(t, sealed(oldOf(n)), "a", "", api.ErrForm)
		}
	}
}

func TestRenewByHand(t *testing.T) {
	checkRenewed(t, sealed("S1L\x00"), leaf())
	checkRenewed(t, sealed("S1L\x02\x01a\x01x\x02ab\x00"), leaf(item("a", "x"), item("ab", "")))
	checkRenewed(t, sealed("S1I\x01\x00\x00\x00\x00\x00"), api.Node{Kind: api.Branch, Children: []int{0}})
	n := api.Node{Kind: api.Branch, Children: []int{0x01020304, 2147483647, 300}, Pivots: []string{"k", "m"}, Changes: []api.Change{put("a", "x"), {Kind: api.Delete, Key: "a"}, {Kind: api.Append, Key: "b", Value: ""}}}
	checkRenewed(t, sealed("S1I\x03\x04\x03\x02\x01\xff\xff\xff\x7f\x2c\x01\x00\x00\x01k\x01m\x03\x01\x01a\x01x\x02\x01a\x03\x01b\x00"), n)
}

func TestRenewRefusesOldLeaves(t *testing.T) {
	for _, s := range []string{
		"", "S", "S1", "S1L", "S1M\x00", "S1l\x00", "S1\x00\x00", "S0L\x00", "S3L\x00", "S2L\x00", "s1L\x00", "S1S1L\x00", // other letters
		"S1L\x00\x00", "S1L\x01", "S1L\x01\x01a", "S1L\x01\x01a\x01", "S1L\x01\x01a\x01x\x00", "S1L\x02\x01a\x01x", "S1L\x01\x02a\x01x", "S1L\x00\x01a\x01x", "S1L\xff\x01a\x01x", // another number
		"S1L\x01\x00\x00", "S1L\x01\x0d" + distinct(13) + "\x00", "S1L\x01\x01a\x11" + distinct(17), // no key or value
		"S1L\x02\x01b\x00\x01a\x00", "S1L\x02\x01a\x00\x01a\x00", "S1L\x02\x02ab\x00\x01a\x00", // not rising
		"S1L\x01\x81\x00a\x00", "S1L\x01\x01a\x80\x00", "S1L\x01\x01a\x81\x00x", "S1L\x01\x81\x80\x00a\x00", "S1L\x01\x01a\xff\xff\xff\xff\x07", "S1L\x01\xff\xff\xff\xff\x0fa\x00", // other lengths
	} {
		checkUnrenewed(t, sealed(s))
		checkUnrenewed(t, s)
	}
	r := rand.New(rand.NewSource(42))
	checkRenewed(t, sealed(oldOf(anyLeaf(rand.New(rand.NewSource(1)), 16))), anyLeaf(rand.New(rand.NewSource(1)), 16))
	for _, n := range []int{17, 18, 32, 255} {
		checkUnrenewed(t, sealed(oldOf(anyLeaf(r, n))))
	}
}

func TestRenewRefusesOldBranches(t *testing.T) {
	child := "\x05\x00\x00\x00"
	for _, s := range []string{
		"S1I", "S1I\x00", "S1I\x00\x00", "S1I\x00" + child + "\x00", "S1I\x01", "S1I\x01\x05\x00\x00", "S1I\x01" + child, "S1I\x01" + child + "\x00\x00", "S1i\x01" + child + "\x00", // another number
		"S1I\x01\x05\x00\x00\x80\x00", "S1I\x01\xff\xff\xff\xff\x00", "S1I\x02" + child + "\x00\x00\x00\x80\x01a\x00", // too great
		"S1I\x01" + child + "\x01a\x00", "S1I\x02" + child + child + "\x00", "S1I\x02" + child + child + "\x00\x00", "S1I\x02" + child + child + "\x01a", "S1I\x02" + child + child + "\x0d" + distinct(13) + "\x00", "S1I\x02" + child + child + "\x81\x00a\x00", // other pivots
		"S1I\x03" + child + child + child + "\x01b\x01a\x00", "S1I\x03" + child + child + child + "\x01a\x01a\x00", // not rising
		"S1I\x05" + strings.Repeat(child, 5) + "\x01a\x01b\x01c\x01d\x00", // too many
		"S1I\x01" + child + "\x01", "S1I\x01" + child + "\x01\x04\x01k\x00", "S1I\x01" + child + "\x01\x00\x01k\x00", "S1I\x01" + child + "\x01\x02\x01k\x00", "S1I\x01" + child + "\x01\x01\x01k", "S1I\x01" + child + "\x01\x01\x00\x00", "S1I\x01" + child + "\x01\x03\x01k\x11" + distinct(17), "S1I\x01" + child + "\x01\x01\x81\x00k\x00", // other changes
		"S1I\x01" + child + "\x09" + strings.Repeat("\x02\x01k", 9), "S1I\x01" + child + "\xff" + strings.Repeat("\x02\x01k", 255),
	} {
		checkUnrenewed(t, sealed(s))
		checkUnrenewed(t, s)
	}
	eight := "S1I\x01" + child + "\x08" + strings.Repeat("\x02\x01k", 8)
	n := api.Node{Kind: api.Branch, Children: []int{5}}
	for range 8 {
		n.Changes = append(n.Changes, api.Change{Kind: api.Delete, Key: "k"})
	}
	checkRenewed(t, sealed(eight), n)
}

func TestRenewRefusesChecks(t *testing.T) {
	page := sealed("S1L\x01\x01a\x01x")
	for end := range len(page) {
		checkUnrenewed(t, page[:end])
		checkUnrenewed(t, page[end+1:])
	}
	checkUnrenewed(t, page+"\x00")
	checkUnrenewed(t, sealed(page))
	checkUnrenewed(t, page+page)
	for at := range 8 * len(page) {
		b := []byte(page)
		b[at/8] ^= 1 << (at % 8)
		checkUnrenewed(t, string(b))
	}
	checkUnrenewed(t, sealed("S1L\xff"+strings.Repeat("\x01a\x00", 1<<20)))
}

// Old pages in which something was touched ahead of their checks: each is refused or another node's old page.
func TestRenewOfWhatWasTouched(t *testing.T) {
	r := rand.New(rand.NewSource(43))
	taken := 0
	for range 300 {
		for _, n := range someNodes(r) {
			old := sealed(touched(r, oldOf(n)))
			s, e := silt.Renew(old)
			if e != api.OK {
				checkUnrenewed(t, old)
				continue
			}
			taken++
			got, e := silt.Read(s)
			if e != api.OK || sealed(oldOf(got)) != old {
				t.Errorf("P5: Renew(%q) = %q, the page of %+v", old, s, got)
			}
		}
	}
	if taken < 100 {
		t.Errorf("only %d old pages were taken", taken)
	}
}
