package silt_test

import (
	"math/rand"
	"testing"

	"silt/api"
	"silt/silt"
)

// turned turns those bits of a page, from a place on, that are set in a pattern.
func turned(page string, from int, pattern uint32) string {
	b := []byte(page)
	for i := range 32 {
		if pattern>>i&1 == 1 {
			b[(from+i)/8] ^= 1 << ((from + i) % 8)
		}
	}
	return string(b)
}

// patternsFor makes patterns of turned bits, the first one always turned, that end ahead of so many bits.
func patternsFor(r *rand.Rand, room int) []uint32 {
	mask := uint32(0xffffffff)
	if room < 32 {
		mask = 1<<room - 1
	}
	list := []uint32{1, mask, 0x80000001 & mask}
	for _, n := range []int{2, 8, 31} {
		list = append(list, (1<<n-1)&mask)
	}
	for range 2 {
		list = append(list, (r.Uint32()|1)&mask)
	}
	return list
}

// eachTurned calls check with all pages in which bits of one part were turned, and that part's number.
func eachTurned(r *rand.Rand, page string, check func(page string, part int)) {
	start := 0
	for part, end := range partsOf(page) {
		for from := 8 * start; from < 8*end; from++ {
			for _, pattern := range patternsFor(r, 8*end-from) {
				check(turned(page, from, pattern), part)
			}
		}
		start = end
	}
}

func TestTurnedBitsOfLeaves(t *testing.T) {
	r := rand.New(rand.NewSource(51))
	for _, n := range []int{0, 1, 4, 5, 16} {
		node := anyLeaf(r, n)
		page, _ := silt.Write(node)
		before := map[string]string{}
		for i := 0; i < n; i += 4 {
			before[node.Items[i].Key] = node.Items[i].Value
		}
		eachTurned(r, page, func(spoilt string, part int) {
			if x, e := silt.Read(spoilt); e != api.ErrForm {
				t.Fatalf("P8: Read(%q) = %+v, %d, want ErrForm", spoilt, x, e)
			}
			checkUnrenewed(t, spoilt)
			for key, value := range before {
				if part == 0 || part == basementOf(node, key) {
					checkFetch(t, spoilt, key, "", api.ErrForm)
				} else {
					checkFetch(t, spoilt, key, value, api.OK)
				}
			}
			if part > 0 {
				checkFetch(t, spoilt, "", "", api.ErrNone)
			} else {
				checkFetch(t, spoilt, "", "", api.ErrForm)
			}
		})
	}
}

// basementOf tells the number, from 1 on, of a key's basement, or -1 if it has none.
func basementOf(n api.Node, key string) int {
	number := -1
	for i := 0; i < len(n.Items); i += 4 {
		if n.Items[i].Key <= key {
			number = i/4 + 1
		}
	}
	return number
}

func TestTurnedBitsOfBranches(t *testing.T) {
	r := rand.New(rand.NewSource(52))
	for _, n := range []api.Node{anyBranch(r, 1, 0), anyBranch(r, 2, 1), anyBranch(r, 4, 8)} {
		page, _ := silt.Write(n)
		eachTurned(r, page, func(spoilt string, part int) {
			if x, e := silt.Read(spoilt); e != api.ErrForm {
				t.Fatalf("P8: Read(%q) = %+v, %d, want ErrForm", spoilt, x, e)
			}
			checkUnrenewed(t, spoilt)
			checkFetch(t, spoilt, "a", "", api.ErrForm)
		})
	}
}
