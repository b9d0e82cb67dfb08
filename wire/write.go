// Package wire writes and reads what pages are made of: numbers, texts and checks.
package wire

// MaxNumber is the greatest number that can be written.
const MaxNumber = 2147483647

// CheckSize is how many bytes a check has.
const CheckSize = 4

// more marks a byte of a number that others follow.
const more = 0x80

// AppendNumber writes a number from 0 to MaxNumber behind out.
func AppendNumber(out []byte, n int) []byte {
	for n >= more {
		out = append(out, byte(n)|more)
		n >>= 7
	}
	return append(out, byte(n))
}

// AppendText writes a text, its length ahead, behind out.
func AppendText(out []byte, s string) []byte {
	return append(AppendNumber(out, len(s)), s...)
}

// AppendShort writes a number of two bytes behind out.
func AppendShort(out []byte, n int) []byte {
	return append(out, byte(n), byte(n>>8))
}

// Seal lays the check of all bytes of out behind them.
func Seal(out []byte) []byte {
	n := check(string(out))
	return append(out, byte(n), byte(n>>8), byte(n>>16), byte(n>>24))
}

// check tells the CRC-32C of s.
func check(s string) uint32 {
	const polynomial = 0x82f63b78 // 1EDC6F41, its bits reflected
	sum := ^uint32(0)
	for i := range len(s) {
		sum ^= uint32(s[i])
		for range 8 {
			// All ones where the lowest bit is set, so that no bit decides a jump.
			sum = sum>>1 ^ polynomial&-(sum&1)
		}
	}
	return ^sum
}
