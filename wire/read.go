package wire

import (
	"strings"

	"silt/giveup"
)

// Reader takes bytes off the front of a text. Each of its methods gives up if what it should take does not stand there.
type Reader struct {
	left string
}

// NewReader makes a reader of s.
func NewReader(s string) *Reader { return &Reader{left: s} }

// Take takes n bytes.
func (r *Reader) Take(n int) string {
	giveup.Unless(n <= len(r.left))
	taken := r.left[:n]
	r.left = r.left[n:]
	return taken
}

// Byte takes one byte.
func (r *Reader) Byte() byte { return r.Take(1)[0] }

// Short takes a number of two bytes.
func (r *Reader) Short() int {
	s := r.Take(2)
	return int(s[0]) | int(s[1])<<8
}

// Long takes a number of four bytes.
func (r *Reader) Long() uint32 {
	s := r.Take(4)
	return uint32(s[0]) | uint32(s[1])<<8 | uint32(s[2])<<16 | uint32(s[3])<<24
}

// Number takes a number that is written in as few bytes as may be.
func (r *Reader) Number() int {
	var n uint64
	for shift := 0; ; shift += 7 {
		b := r.Byte()
		n |= uint64(b&^more) << shift
		giveup.Unless(n <= MaxNumber)
		if b < more {
			giveup.Unless(b > 0 || shift == 0) // a nought at the end says nothing
			return int(n)
		}
		giveup.Unless(shift < 28)
	}
}

// Text takes a text. It is new memory, so that nobody keeps what was handed in.
func (r *Reader) Text() string { return strings.Clone(r.Take(r.Number())) }

// End gives up if anything is left.
func (r *Reader) End() { giveup.Unless(r.left == "") }

// Unseal tells s without the check at its end, and gives up if this is not right.
func Unseal(s string) string {
	giveup.Unless(len(s) >= CheckSize)
	body := s[:len(s)-CheckSize]
	giveup.Unless(NewReader(s[len(body):]).Long() == check(body))
	return body
}
