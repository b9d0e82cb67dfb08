package silt_test

import (
	"math/rand"
	"strings"
	"sync"
	"testing"

	"silt/api"
	"silt/silt"
)

// distinct makes n bytes, up to 512, in which no three in a row come again.
func distinct(n int) string {
	var b []byte
	for i := range 256 {
		b = append(b, byte(i), byte(i+100))
	}
	return string(b[:n])
}

// slowSqueeze follows the document's words with no thought of speed: at each place it tries lengths from the longest, and for each of them distances from the nearest.
func slowSqueeze(s string) string {
	var out, singles []byte
	flush := func() {
		for len(singles) > 128 {
			out = append(append(out, 127), singles[:128]...)
			singles = singles[128:]
		}
		if len(singles) > 0 {
			out = append(append(out, byte(len(singles)-1)), singles...)
		}
		singles = nil
	}
	at := 0
place:
	for at < len(s) {
		for length := min(66, len(s)-at); length >= 3; length-- {
			for back := 1; back <= min(255, at); back++ {
				if s[at-back:at-back+length] == s[at:at+length] {
					flush()
					out = append(out, byte(125+length), byte(back))
					at += length
					continue place
				}
			}
		}
		singles = append(singles, s[at])
		at++
	}
	flush()
	return string(out)
}

// checkPair holds Squeeze of a text, and Spread of that, against what they should be.
func checkPair(t *testing.T, text, squeezed string) {
	t.Helper()
	if s := silt.Squeeze(text); s != squeezed {
		t.Errorf("P2: Squeeze(%.60q) = %.60q, want %.60q", text, s, squeezed)
	}
	if s, e := silt.Spread(squeezed); s != text || e != api.OK {
		t.Errorf("P2: Spread(%.60q) = %.60q, %d, want %.60q, OK", squeezed, s, e, text)
	}
}

// checkRefused holds Spread of what is no text's Squeeze.
func checkRefused(t *testing.T, s string) {
	t.Helper()
	if u, e := silt.Spread(s); u != "" || e != api.ErrForm {
		t.Errorf("P2: Spread(%.60q) = %.60q, %d, want nothing, ErrForm", s, u, e)
	}
}

// checkSound holds Spread of what may be a Squeeze or not.
func checkSound(t *testing.T, s string) {
	t.Helper()
	u, e := silt.Spread(s)
	switch {
	case e == api.OK && slowSqueeze(u) == s:
	case e == api.ErrForm && u == "":
	default:
		t.Fatalf("P2: Spread(%.60q) = %.60q, %d", s, u, e)
	}
}

func TestSqueezeExamples(t *testing.T) {
	checkPair(t, "abcabcabc", "\x02abc\x83\x03")
	checkPair(t, "aaaa", "\x00a\x80\x01")
	checkPair(t, "ab", "\x01ab")
	checkPair(t, "", "")
	checkRefused(t, "\x01ab\x00c")
}

func TestSqueezeLengthsOfMatches(t *testing.T) {
	block := distinct(100)
	checkPair(t, "ababx", "\x04ababx")
	checkPair(t, "abcabcx", "\x02abc\x80\x03\x00x")
	for n := 3; n <= 66; n++ {
		checkPair(t, block+block[:n], "\x63"+block+string([]byte{byte(125 + n), 100}))
	}
	checkPair(t, block+block[:67], "\x63"+block+"\xbf\x64\x00"+block[66:67])
	checkPair(t, block+block[:68], "\x63"+block+"\xbf\x64\x01"+block[66:68])
	checkPair(t, block+block[:69], "\x63"+block+"\xbf\x64\x80\x64")
	checkPair(t, block+block, "\x63"+block+"\xbf\x64\x9f\x64")
}

func TestSqueezeDistancesOfMatches(t *testing.T) {
	checkPair(t, "aaaa", "\x00a\x80\x01")
	checkPair(t, "ababa", "\x01ab\x80\x02")
	for back := 3; back <= 255; back++ {
		block := distinct(back)
		run := "\x7f"
		if back < 128 {
			run = string([]byte{byte(back - 1)}) + block
		} else if run += block[:128]; back > 128 {
			run += string([]byte{byte(back - 129)}) + block[128:]
		}
		checkPair(t, block+block[:3], run+"\x80"+string([]byte{byte(back)}))
	}
	far := distinct(256)
	checkPair(t, far+far[:3], "\x7f"+far[:128]+"\x7f"+far[128:]+"\x02"+far[:3])
	// One byte more does not bring it nearer.
	checkPair(t, far+far[:4], "\x7f"+far[:128]+"\x7f"+far[128:]+"\x03"+far[:4])
}

func TestSqueezeMatchesThatReachIntoThemselves(t *testing.T) {
	for back := 1; back <= 70; back++ {
		block := distinct(back)
		for n := 3; n <= 66; n++ {
			text := strings.Repeat(block, 68)[:back+n]
			checkPair(t, text, string([]byte{byte(back - 1)})+block+string([]byte{byte(125 + n), byte(back)}))
		}
	}
	checkPair(t, strings.Repeat("a", 67), "\x00a\xbf\x01")
	checkPair(t, strings.Repeat("a", 68), "\x00a\xbf\x01\x00a")
	checkPair(t, strings.Repeat("a", 69), "\x00a\xbf\x01\x01aa")
	checkPair(t, strings.Repeat("a", 70), "\x00a\xbf\x01\x80\x01")
}

func TestSqueezeTakesTheLongestThenTheNearest(t *testing.T) {
	checkPair(t, "abcxabcyabc", "\x03abcx\x80\x04\x00y\x80\x04")
	checkPair(t, "abcdxabcyabcd", "\x04abcdx\x80\x05\x00y\x81\x09")
	checkPair(t, "abcdxabcdyabcd", "\x04abcdx\x81\x05\x00y\x81\x05")
	// Two of the same length, 6 and 11 ahead.
	checkPair(t, "abc12abc345abc67", "\x04abc12\x80\x05\x02345\x80\x06\x0167")
	// A match is not put off for a longer one that begins a byte later.
	checkPair(t, "abc.bcdef.abcdef", "\x09abc.bcdef.\x80\x0a\x80\x07")
}

func TestSqueezeRuns(t *testing.T) {
	all := distinct(512)
	for _, n := range []int{1, 2, 127, 128, 129, 130, 255, 256, 257, 384, 385, 512} {
		want := ""
		for at := 0; at < n; at += 128 {
			piece := all[at:min(n, at+128)]
			want += string([]byte{byte(len(piece) - 1)}) + piece
		}
		checkPair(t, all[:n], want)
	}
	// A match begins the count anew.
	checkPair(t, all[:128]+all[125:128]+all[200:328], "\x7f"+all[:128]+"\x80\x03\x7f"+all[200:328])
	// Bytes of all kinds are singles, those that begin matches too.
	checkPair(t, "\x80\x01\xff\x00", "\x03\x80\x01\xff\x00")
}

func TestSpreadRefusesWhatIsCutShort(t *testing.T) {
	for _, s := range []string{"\x00", "\x7f", "\x02ab", "\x02abc\x01d", "\x80", "\x00a\x80", "\x00a\x80\x01\x80", "\x7f" + distinct(127)} {
		checkRefused(t, s)
	}
	whole := silt.Squeeze(strings.Repeat(distinct(200), 3))
	for n := 1; n < len(whole); n++ {
		checkSound(t, whole[:n])
	}
}

func TestSpreadRefusesMatchesThatMayNotBe(t *testing.T) {
	for _, s := range []string{"\x80\x01", "\x00a\x80\x02", "\x02abc\x80\x04", "\x02abc\x80\xff", "\x00a\x80\x01\x80\x05\x01bc"} { // from ahead of the beginning
		checkRefused(t, s)
	}
	for _, s := range []string{"\x80\x00", "\x00a\x80\x00", "\x00a\xbf\x00", "\x00a\x80\x00\x00b"} { // none ahead
		checkRefused(t, s)
	}
	for head := 192; head <= 255; head++ { // too long
		checkRefused(t, "\x02abc"+string([]byte{byte(head), 3}))
		checkRefused(t, string([]byte{byte(head), 1}))
	}
}

func TestSpreadRefusesOtherRuns(t *testing.T) {
	all := distinct(256)
	for _, s := range []string{"\x01ab\x00c", "\x00a\x00b", "\x00a\x80\x01\x00b\x00c", "\x7e" + all[:127] + "\x00" + all[127:128], "\x00" + all[:1] + "\x7f" + all[1:129]} {
		checkRefused(t, s)
	}
}

func TestSpreadRefusesOtherMatches(t *testing.T) {
	for _, s := range []string{"\x02aaa\x80\x01", "\x05abcabc", "\x03aaaa", "\x03abca\x80\x03"} { // there was one earlier
		checkRefused(t, s)
	}
	for _, s := range []string{"\x02abc\x80\x03\x80\x03", "\x00a\x80\x01\x00a", "\x00a\x80\x01\x80\x01", "\x02abc\x82\x03\x00c", "\x04abcdx\x80\x05\x00y\x80\x04\x00d", "\x00a\xbe\x01\x82\x01"} { // there was a longer one
		checkRefused(t, s)
	}
	for _, s := range []string{"\x03abcx\x80\x04\x00y\x80\x08", "\x00a\xbf\x01\x81\x02", "\x00a\xbf\x01\x81\x43"} { // there was a nearer one
		checkRefused(t, s)
	}
}

// Every short text of two letters, against the slow way.
func TestSqueezeAllShortTexts(t *testing.T) {
	for n := range 14 {
		for code := range 1 << n {
			b := make([]byte, n)
			for i := range b {
				b[i] = 'a' + byte(code>>i&1)
			}
			checkPair(t, string(b), slowSqueeze(string(b)))
		}
	}
}

// Every short text of some telling bytes: Spread takes just those that are a Squeeze. The letters are 0 and 1, so that counts may stand for letters and the other way round.
func TestSpreadAllShortTexts(t *testing.T) {
	squeezes := map[string]string{}
	for n := range 16 {
		for code := range 1 << n {
			b := make([]byte, n)
			for i := range b {
				b[i] = byte(code >> i & 1)
			}
			squeezes[slowSqueeze(string(b))] = string(b)
		}
	}
	letters := "\x00\x01\x02\x03\x80\x81\x82\xbf\xc0"
	var try func(s string, left int)
	try = func(s string, left int) {
		checkSound(t, s)
		if text, ok := squeezes[s]; ok {
			checkPair(t, text, s)
		}
		if left > 0 {
			for i := range len(letters) {
				try(s+letters[i:i+1], left-1)
			}
		}
	}
	try("", 5)
}

func TestSqueezeRandomTexts(t *testing.T) {
	r := rand.New(rand.NewSource(2))
	for range 100 {
		kinds := 1 + r.Intn(40)
		b := make([]byte, r.Intn(700))
		for i := range b {
			if i > 300 && r.Intn(3) > 0 {
				b[i] = b[i-250-r.Intn(12)]
			} else {
				b[i] = byte(r.Intn(kinds))
			}
		}
		checkPair(t, string(b), slowSqueeze(string(b)))
	}
}

// One byte changed, laid in or left out: it is either refused or another text's Squeeze.
func TestSpreadOfWhatWasTouched(t *testing.T) {
	r := rand.New(rand.NewSource(3))
	for range 3000 {
		b := make([]byte, 1+r.Intn(150))
		for i := range b {
			b[i] = byte('a' + r.Intn(3))
		}
		p := silt.Squeeze(string(b))
		at := r.Intn(len(p))
		for _, s := range []string{
			p[:at] + string([]byte{byte(r.Intn(256))}) + p[at+1:],
			p[:at] + string([]byte{byte(r.Intn(256))}) + p[at:],
			p[:at] + p[at+1:],
		} {
			checkSound(t, s)
		}
	}
}

// Whatever the bytes, both calls end without a panic (P1).
func TestSpreadOfAnything(t *testing.T) {
	r := rand.New(rand.NewSource(4))
	for range 20000 {
		b := make([]byte, r.Intn(40))
		for i := range b {
			b[i] = byte(r.Intn(256)) >> r.Intn(8)
		}
		s := string(b)
		checkSound(t, s)
		checkPair(t, s, slowSqueeze(s))
	}
}

func TestSqueezeLongTexts(t *testing.T) {
	r := rand.New(rand.NewSource(5))
	noise := make([]byte, 1<<20)
	for i := range noise {
		noise[i] = byte(r.Intn(256))
	}
	for name, text := range map[string]string{
		"one letter": strings.Repeat("a", 1<<20),
		"a sentence": strings.Repeat("what sinks slowly sinks in company; ", 30000),
		"noise":      string(noise),
		"no match":   strings.Repeat(distinct(512), 2000),
	} {
		p := silt.Squeeze(text)
		if u, e := silt.Spread(p); u != text || e != api.OK {
			t.Errorf("P2: %s: Spread of its Squeeze has %d bytes, %d, want %d", name, len(u), e, len(text))
		}
		if u, e := silt.Spread(p + "\xc0"); u != "" || e != api.ErrForm {
			t.Errorf("P2: %s: one byte more: %d bytes, %d, want ErrForm", name, len(u), e)
		}
		if u, e := silt.Spread(p[1:]); e == api.OK && silt.Squeeze(u) != p[1:] || e != api.OK && u != "" {
			t.Errorf("P2: %s: one byte less: %d bytes, %d", name, len(u), e)
		}
	}
	checkPair(t, strings.Repeat("a", 1+66*10000), "\x00a"+strings.Repeat("\xbf\x01", 10000))
	block, pieces := distinct(512), ""
	for at := 0; at < 512; at += 128 {
		pieces += "\x7f" + block[at:at+128]
	}
	checkPair(t, strings.Repeat(block, 100), strings.Repeat(pieces, 100))
}

// The calls may be made from several goroutines at a time (P1).
func TestSqueezeFromSeveralGoroutines(t *testing.T) {
	text := strings.Repeat("abcabx", 200)
	want := silt.Squeeze(text)
	var wait sync.WaitGroup
	for range 8 {
		wait.Add(1)
		go func() {
			defer wait.Done()
			for range 50 {
				checkPair(t, text, want)
				checkRefused(t, want+"\x00")
			}
		}()
	}
	wait.Wait()
}
