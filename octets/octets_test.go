package octets

import (
	"strings"
	"testing"
)

func TestNumbers(t *testing.T) {
	for _, c := range []struct{ got, want string }{
		{One(0), "\x00"}, {One(200), "\xc8"}, {One(255), "\xff"},
		{Two(0), "\x00\x00"}, {Two(1), "\x01\x00"}, {Two(0x1234), "\x34\x12"}, {Two(65535), "\xff\xff"},
		{Four(0), "\x00\x00\x00\x00"}, {Four(0x12345678), "\x78\x56\x34\x12"},
		{Four(1000000000), "\x00\xca\x9a\x3b"}, {Four(1<<32 - 1), "\xff\xff\xff\xff"},
	} {
		if c.got != c.want {
			t.Errorf("got % x, want % x", c.got, c.want)
		}
	}
}

func TestSum(t *testing.T) {
	for _, c := range []struct {
		text string
		want uint16
	}{
		{"", 1}, {"a", 361}, {"\x00", 264}, {"\xff", 519},
		{"v1000", 46454}, {"sv1000", 41793}, {"sv1fff", 56478},
		{strings.Repeat("\xff", 1000), 39252},
	} {
		if got := Sum(c.text); got != c.want {
			t.Errorf("Sum(%.20q) = %d, want %d", c.text, got, c.want)
		}
	}
}

func TestSumOfParts(t *testing.T) {
	text := "ab\x00\xff\xc3\x9fz"
	want := Sum(text)
	for i := range len(text) + 1 {
		if got := Sum(text[:i], "", text[i:]); got != want {
			t.Errorf("cut at %d: %d, want %d", i, got, want)
		}
	}
	if got := Sum(); got != 1 {
		t.Errorf("no parts: %d, want 1", got)
	}
}
