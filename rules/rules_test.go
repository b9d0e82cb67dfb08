package rules

import (
	"strings"
	"testing"

	"silt/api"
)

func TestKeysAndValues(t *testing.T) {
	for n := range 40 {
		s := strings.Repeat("\x00", n)
		if IsKey(s) != (n >= 1 && n <= 12) {
			t.Errorf("IsKey of %d bytes = %v", n, IsKey(s))
		}
		if IsValue(s) != (n <= 16) {
			t.Errorf("IsValue of %d bytes = %v", n, IsValue(s))
		}
	}
}

func TestChanges(t *testing.T) {
	for kind := -1; kind < 6; kind++ {
		for keySize := range 15 {
			for valueSize := range 19 {
				c := api.Change{Kind: kind, Key: strings.Repeat("k", keySize), Value: strings.Repeat("v", valueSize)}
				want := 1 <= keySize && keySize <= 12 && ((kind == 1 || kind == 3) && valueSize <= 16 || kind == 2 && valueSize == 0)
				if IsChange(c) != want {
					t.Errorf("IsChange(%+v) = %v", c, !want)
				}
			}
		}
	}
}

// Keys are ordered by their bytes, not by letters or as texts of some language.
func TestRisingKeys(t *testing.T) {
	rising := []string{"\x00", "\x00\x00", "\x00\x01", "\x01", "A", "a", "a\x00", "aa", "a\xff", "b", "\x7f", "\x80", "\xc3\xa4", "\xff", "\xff\x00", "\xff\xff"}
	if !AreKeys(rising) || !AreKeys(nil) || !AreKeys(rising[:1]) {
		t.Errorf("AreKeys of rising ones does not hold")
	}
	for i, a := range rising {
		for j, b := range rising {
			if got := AreKeys([]string{a, b}); got != (i < j) {
				t.Errorf("AreKeys of %q and %q = %v", a, b, got)
			}
			if got := AreItems([]api.Item{{Key: a}, {Key: b}}); got != (i < j) {
				t.Errorf("AreItems of %q and %q = %v", a, b, got)
			}
		}
	}
	if AreKeys([]string{"", "a"}) || AreKeys([]string{"a", "b", strings.Repeat("c", 13)}) {
		t.Errorf("AreKeys holds of what is no key")
	}
}
