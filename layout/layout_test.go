package layout

import (
	"errors"
	"strings"
	"testing"
)

func TestHead(t *testing.T) {
	for _, c := range []struct {
		generation uint32
		region     uint8
		want       string
	}{
		{1, 0, "DK\x01\x00\x00\x00\x00\x86\x9c"},
		{0x01020304, 1, "DK\x04\x03\x02\x01\x01\x91\xfb"},
	} {
		want := c.want + strings.Repeat("\x00", 23)
		if got := Head(c.generation, c.region); got != want {
			t.Errorf("Head(%d, %d) = % x, want % x", c.generation, c.region, got, want)
		}
	}
}

func TestRecord(t *testing.T) {
	for _, c := range []struct {
		generation uint32
		number     uint16
		payload    string
		want       string
	}{
		{1, 0, "\x00", "\x01\x00\x01\x00\x00\x00\x00\x00\x00\xc0\x4f"},
		{0x01020304, 0xfeff, "X\x4a\x00", "\x03\x00\x04\x03\x02\x01\xff\xfeX\x4a\x00\xe6\x84"},
	} {
		if got := Record(c.generation, c.number, c.payload); got != c.want {
			t.Errorf("Record(%d, %d, %q) = % x, want % x", c.generation, c.number, c.payload, got, c.want)
		}
	}
	if got := Record(1, 1, strings.Repeat("p", 793)); got[:2] != "\x19\x03" || len(got) != 803 {
		t.Errorf("a long record begins with % x and has %d bytes", got[:2], len(got))
	}
}

func TestFill(t *testing.T) {
	for _, c := range []struct {
		text  string
		bytes int
		want  string
	}{
		{"", 0, ""}, {"", 3, "\x00\x00\x00"}, {"abc", 3, "abc"}, {"abc", 5, "abc\x00\x00"},
	} {
		if got := Fill(c.text, c.bytes); got != c.want {
			t.Errorf("Fill(%q, %d) = %q, want %q", c.text, c.bytes, got, c.want)
		}
	}
}

func TestBlank(t *testing.T) {
	for _, sectors := range []int{12, 200} {
		if disk, err := Blank(sectors); len(disk) != 32*sectors || err != nil {
			t.Errorf("P4: Blank(%d) has %d bytes, %v", sectors, len(disk), err)
		}
	}
	for _, sectors := range []int{-1, 0, 11, 201} {
		if disk, err := Blank(sectors); disk != "" || !errors.Is(err, ErrSize) {
			t.Errorf("P4: Blank(%d) has %d bytes, %v", sectors, len(disk), err)
		}
	}
}
