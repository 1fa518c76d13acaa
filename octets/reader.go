package octets

import "strings"

// Reader takes a text from its front on. What the text is too short for is
// read as noughts, and Whole tells of it: so the reader of many parts needs to
// ask but once.
type Reader struct {
	rest  string
	short bool
}

// NewReader reads a text.
func NewReader(text string) Reader { return Reader{rest: text} }

// One reads a number in one byte.
func (r *Reader) One() uint8 { return r.Text(1)[0] }

// Two reads a number in two bytes, the low one first.
func (r *Reader) Two() uint16 {
	text := r.Text(2)
	return uint16(text[0]) | uint16(text[1])<<8
}

// Four reads a number in four bytes, the low one first.
func (r *Reader) Four() uint32 {
	low := r.Two()
	return uint32(low) | uint32(r.Two())<<16
}

// Text reads so many bytes as they are.
func (r *Reader) Text(bytes int) string {
	if bytes > len(r.rest) {
		r.rest, r.short = "", true
		return strings.Repeat("\x00", bytes)
	}
	text := r.rest[:bytes]
	r.rest = r.rest[bytes:]
	return text
}

// Whole tells whether what was read is just the text: no byte more or less.
func (r *Reader) Whole() bool { return r.rest == "" && !r.short }
