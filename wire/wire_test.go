package wire

import (
	"hash/crc32"
	"strings"
	"testing"

	"silt/api"
	"silt/giveup"
)

// numbers with the bytes that they are written in, at each edge of their length.
var numbers = []struct {
	n int
	s string
}{
	{0, "\x00"}, {1, "\x01"}, {127, "\x7f"},
	{128, "\x80\x01"}, {300, "\xac\x02"}, {16383, "\xff\x7f"},
	{16384, "\x80\x80\x01"}, {2097151, "\xff\xff\x7f"},
	{2097152, "\x80\x80\x80\x01"}, {268435455, "\xff\xff\xff\x7f"},
	{268435456, "\x80\x80\x80\x80\x01"}, {2147483647, "\xff\xff\xff\xff\x07"},
}

func TestNumbers(t *testing.T) {
	for _, c := range numbers {
		if s := string(AppendNumber([]byte("ahead"), c.n)); s != "ahead"+c.s {
			t.Errorf("AppendNumber of %d = %q, want %q", c.n, s, c.s)
		}
		r := NewReader(c.s + "behind")
		n, e := giveup.Catch(r.Number)
		if n != c.n || e != api.OK || r.left != "behind" {
			t.Errorf("Number of %q = %d, %d, leaving %q, want %d", c.s, n, e, r.left, c.n)
		}
		for cut := range len(c.s) {
			checkGivesUp(t, "Number", c.s[:cut], (*Reader).Number)
		}
	}
}

func TestNumberGivesUp(t *testing.T) {
	for _, s := range []string{
		"\x80\x00", "\x81\x00", "\xff\x00", "\x80\x80\x00", "\xac\x82\x00", "\x80\x80\x80\x80\x00", // a byte too many
		"\x80\x80\x80\x80\x08", "\xff\xff\xff\xff\x08", "\xff\xff\xff\xff\x0f", "\xff\xff\xff\xff\x7f", // too great
		"\x80\x80\x80\x80\x80\x00", "\x80\x80\x80\x80\x80\x01", "\xff\xff\xff\xff\x87\x00", strings.Repeat("\x80", 20) + "\x01", strings.Repeat("\xff", 100),
	} {
		checkGivesUp(t, "Number", s, (*Reader).Number)
		checkGivesUp(t, "Text", s+strings.Repeat("x", 300), (*Reader).Text)
	}
}

func checkGivesUp[T any](t *testing.T, name, s string, read func(*Reader) T) {
	t.Helper()
	if v, e := giveup.Catch(func() T { return read(NewReader(s)) }); e != api.ErrForm {
		t.Errorf("%s of %.30q = %v, want that it gives up", name, s, v)
	}
}

func TestTexts(t *testing.T) {
	for _, n := range []int{0, 1, 127, 128, 300, 16384} {
		text := strings.Repeat("t", n)
		written := string(AppendText(nil, text))
		if want := string(AppendNumber(nil, n)) + text; written != want {
			t.Errorf("AppendText of %d bytes = %.30q, want %.30q", n, written, want)
		}
		r := NewReader(written + "behind")
		if s, e := giveup.Catch(r.Text); s != text || e != api.OK || r.left != "behind" {
			t.Errorf("Text of %d bytes = %.30q, %d, leaving %q", n, s, e, r.left)
		}
		checkGivesUp(t, "Text", written[:len(written)-1], (*Reader).Text)
	}
	checkGivesUp(t, "Text", "\xff\xff\xff\xff\x07abc", (*Reader).Text)
}

func TestShortsAndLongs(t *testing.T) {
	r := NewReader(string(AppendShort(nil, 0xfe01)) + "\x04\x03\x02\x81\x09")
	if n := r.Short(); n != 0xfe01 {
		t.Errorf("Short = %x, want fe01", n)
	}
	if n := r.Long(); n != 0x81020304 {
		t.Errorf("Long = %x, want 81020304", n)
	}
	if b := r.Byte(); b != 9 {
		t.Errorf("Byte = %d, want 9", b)
	}
	r.End()
	checkGivesUp(t, "Byte", "", (*Reader).Byte)
	checkGivesUp(t, "Short", "a", (*Reader).Short)
	checkGivesUp(t, "Long", "abc", (*Reader).Long)
	checkGivesUp(t, "End", "a", func(r *Reader) int { r.End(); return 0 })
}

func TestChecks(t *testing.T) {
	if s := string(Seal([]byte("123456789"))); s != "123456789\x83\x92\x06\xe3" {
		t.Errorf("Seal of the document's example = %q", s)
	}
	table := crc32.MakeTable(crc32.Castagnoli)
	b := []byte{}
	for i := range 600 {
		if n := check(string(b)); n != crc32.Checksum(b, table) {
			t.Errorf("check of %d bytes = %x, want %x", len(b), n, crc32.Checksum(b, table))
		}
		b = append(b, byte(i*i>>3))
	}
}

func TestUnseal(t *testing.T) {
	for _, body := range []string{"", "a", "123456789", strings.Repeat("\x00", 64)} {
		s := string(Seal([]byte(body)))
		if u, e := giveup.Catch(func() string { return Unseal(s) }); u != body || e != api.OK {
			t.Errorf("Unseal of %q = %q, %d", s, u, e)
		}
		for i := range len(s) {
			b := []byte(s)
			b[i] ^= 0x10
			if u, e := giveup.Catch(func() string { return Unseal(string(b)) }); e != api.ErrForm {
				t.Errorf("Unseal of %q = %q, want that it gives up", b, u)
			}
		}
	}
	for _, s := range []string{"", "a", "abc", "abcd"} {
		if u, e := giveup.Catch(func() string { return Unseal(s) }); e != api.ErrForm {
			t.Errorf("Unseal of %q = %q, want that it gives up", s, u)
		}
	}
}
