package squeeze

import (
	"strings"
	"testing"

	"silt/api"
	"silt/giveup"
)

func TestLongestMatch(t *testing.T) {
	for _, c := range []struct {
		s                string
		at, length, back int
	}{
		{"a", 0, 0, 0},
		{"aaa", 1, 0, 0},
		{"aaaa", 1, 3, 1},
		{"abcabc", 3, 3, 3},
		{"abcabd", 3, 0, 0},
		{"abcabcabc", 3, 6, 3},
		{"abcdxabcyabcd", 9, 4, 9},
		{"abcxabcyabc", 8, 3, 4},
		{strings.Repeat("a", 66), 1, 65, 1},
		{strings.Repeat("a", 67), 1, 66, 1},
		{strings.Repeat("a", 80), 1, 66, 1},
		{strings.Repeat("a", 80), 70, 10, 1},
	} {
		if length, back := longestMatch(c.s, c.at); length != c.length || back != c.back {
			t.Errorf("longestMatch(%.30q, %d) = %d, %d, want %d, %d", c.s, c.at, length, back, c.length, c.back)
		}
	}
}

func TestAppendRun(t *testing.T) {
	for n := range 400 {
		singles := strings.Repeat("s", n)
		want := "ahead"
		for left := n; left > 0; left -= 128 {
			piece := min(left, 128)
			want += string([]byte{byte(piece - 1)}) + strings.Repeat("s", piece)
		}
		if got := string(appendRun([]byte("ahead"), singles)); got != want {
			t.Errorf("appendRun of %d singles = %q, want %q", n, got, want)
		}
	}
}

// unpack takes what is well formed, even where Squeeze would have written it otherwise; Spread does not.
func TestUnpackTakesMoreThanSpread(t *testing.T) {
	for _, c := range []struct{ s, text string }{
		{"\x01ab\x00c", "abc"},
		{"\x02aaa\x80\x01", "aaaaaa"},
		{"\x05abcabc", "abcabc"},
		{"\x02abc\x80\x03\x80\x03", "abcabcabc"},
	} {
		text, e := giveup.Catch(func() string { return unpack(c.s) })
		if text != c.text || e != api.OK {
			t.Errorf("unpack(%q) = %q, %d, want %q", c.s, text, e, c.text)
		}
		if text, e := giveup.Catch(func() string { return Spread(c.s) }); text != "" || e != api.ErrForm {
			t.Errorf("Spread(%q) = %q, %d, want that it gives up", c.s, text, e)
		}
	}
}

func TestUnpackGivesUp(t *testing.T) {
	for _, s := range []string{
		"\x00", "\x7f", "\x02ab", "\x7f" + strings.Repeat("a", 127),
		"\x80", "\x00a\x80", "\x80\x01", "\x00a\x80\x00", "\x00a\x80\x02", "\x00a\x80\xff",
		"\x00a\xc0\x01", "\x00a\xff\x01",
	} {
		if text, e := giveup.Catch(func() string { return unpack(s) }); e != api.ErrForm {
			t.Errorf("unpack(%.20q) = %q, want that it gives up", s, text)
		}
	}
}
