package octets

import "testing"

func TestReaderReadsWhatIsWritten(t *testing.T) {
	for _, n := range []uint32{0, 1, 255, 256, 0x12345678, 1000000000, 1<<32 - 1} {
		r := NewReader(One(uint8(n)) + Two(uint16(n)) + "text" + Four(n))
		if a, b, c, d := r.One(), r.Two(), r.Text(4), r.Four(); a != uint8(n) || b != uint16(n) || c != "text" || d != n {
			t.Errorf("%d is read as %d, %d, %q, %d", n, a, b, c, d)
		}
		if !r.Whole() {
			t.Errorf("%d: what was read is not the whole text", n)
		}
	}
}

func TestReaderOfTooManyBytes(t *testing.T) {
	r := NewReader("abc")
	if r.Two(); r.Whole() {
		t.Error("a byte is left, and the text is whole")
	}
}

func TestReaderOfTooFewBytes(t *testing.T) {
	for _, text := range []string{"", "\xff", "\xff\xff", "\xff\xff\xff"} {
		r := NewReader(text)
		r.Four()
		if r.Whole() {
			t.Errorf("four bytes of % x, and the text is whole", text)
		}
		if a, b, c := r.One(), r.Two(), r.Text(3); a != 0 || b != 0 || c != "\x00\x00\x00" {
			t.Errorf("behind the end of % x stand %d, %d, %q", text, a, b, c)
		}
	}
	r := NewReader("")
	if r.Text(0) != "" || !r.Whole() {
		t.Error("nothing of an empty text is not the whole of it")
	}
}
