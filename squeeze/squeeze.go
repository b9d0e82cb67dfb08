// Package squeeze writes bytes squeezed, and reads what was squeezed.
package squeeze

import (
	"silt/api"
	"silt/giveup"
)

const (
	minMatch  = 3
	maxRun    = 128 // also the first byte that begins no run
	matchBase = 125 // what is added to a match's length in its first byte
)

// Squeeze tells s, squeezed.
func Squeeze(s string) string {
	var out []byte
	written := 0
	for at := 0; at < len(s); {
		length, back := longestMatch(s, at)
		if length == 0 {
			at++
			continue
		}
		out = appendRun(out, s[written:at])
		out = append(out, byte(matchBase+length), byte(back))
		at += length
		written = at
	}
	return string(appendRun(out, s[written:]))
}

// longestMatch tells the match to be taken at a place, or 0, 0 if there is none.
func longestMatch(s string, at int) (length, back int) {
	most := min(len(s)-at, api.MaxMatch)
	farthest := min(at, api.MaxBack)
	length = minMatch - 1
	for b := 1; b <= farthest && length < most; b++ {
		// Only a longer match counts, so that the nearest of equally long ones stays.
		if n := commonLength(s, at-b, at, most); n > length {
			length, back = n, b
		}
	}
	if back == 0 {
		return 0, 0
	}
	return length, back
}

// commonLength tells how many bytes, at most that many, are the same from both places on.
func commonLength(s string, early, late, most int) int {
	n := 0
	for n < most && s[early+n] == s[late+n] {
		n++
	}
	return n
}

// appendRun writes singles behind out.
func appendRun(out []byte, singles string) []byte {
	for len(singles) > 0 {
		n := min(len(singles), maxRun)
		out = append(out, byte(n-1))
		out = append(out, singles[:n]...)
		singles = singles[n:]
	}
	return out
}

// Spread tells the text whose Squeeze is s, and gives up if there is none.
func Spread(s string) string {
	text := unpack(s)
	// What can be unpacked may still have been written in another way than Squeeze's.
	giveup.Unless(Squeeze(text) == s)
	return text
}

// unpack follows the runs and matches of s.
func unpack(s string) string {
	var out []byte
	for len(s) > 0 {
		if s[0] < maxRun {
			out, s = unpackRun(out, s)
		} else {
			out, s = unpackMatch(out, s)
		}
	}
	return string(out)
}

// unpackRun lays the run that begins s behind out, and tells what follows it.
func unpackRun(out []byte, s string) ([]byte, string) {
	end := int(s[0]) + 2
	giveup.Unless(end <= len(s))
	return append(out, s[1:end]...), s[end:]
}

// unpackMatch lays the match that begins s behind out, and tells what follows it.
func unpackMatch(out []byte, s string) ([]byte, string) {
	giveup.Unless(len(s) >= 2)
	length, back := int(s[0])-matchBase, int(s[1])
	giveup.Unless(length <= api.MaxMatch)
	giveup.Unless(1 <= back && back <= len(out))
	// One byte at a time, because a match may reach into itself.
	for range length {
		out = append(out, out[len(out)-back])
	}
	return out, s[2:]
}
