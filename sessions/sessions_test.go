package sessions

import (
	"math"
	"testing"
)

func TestIsOver(t *testing.T) {
	for _, c := range []struct {
		created, used, now, idle, absolute int
		want                               bool
	}{
		{0, 0, 9, 10, 30, false},
		{0, 0, 10, 10, 30, true},
		{0, 25, 29, 10, 30, false},
		{0, 25, 30, 10, 30, true},
		{0, 25, 35, 10, 30, true},
		{5, 5, 5, 1, 1, false},
		{5, 5, 6, 1, 1000000000, true},
		{100, 100, 5, 1, 1, false}, // begun ahead of the time
		{100, 0, 5, 5, 1, true},
		{0, 100, 5, 1, 5, true},
		{0, 0, 1000000000, 1000000000, 1000000000, true},
		{0, 0, 999999999, 1000000000, 1000000000, false},
	} {
		s := Session{created: c.created, used: c.used}
		if got := s.IsOver(c.now, c.idle, c.absolute); got != c.want {
			t.Errorf("P8: a session is over at %d: %t, of %v", c.now, got, c)
		}
	}
}

func TestBounds(t *testing.T) {
	for _, c := range []struct {
		what      string
		got, want bool
	}{
		{"user 0", IsUser(0), false}, {"user 1", IsUser(1), true}, {"user 99", IsUser(99), true}, {"user 100", IsUser(100), false},
		{"user 257", IsUser(257), false}, {"user -1", IsUser(math.MinInt), false},
		{"time -1", IsTime(-1), false}, {"time 0", IsTime(0), true}, {"time 10^9", IsTime(1000000000), true}, {"time 10^9 + 1", IsTime(1000000001), false},
		{"no name", IsName(""), false}, {"a name", IsName("\x00"), true}, {"8 bytes", IsName("eight-by"), true}, {"9 bytes", IsName("nine-byte"), false},
		{"bytes, not runes", IsName("ßßßßß"), false},
		{"no text", IsText(""), true}, {"text of 8", IsText("eight-by"), true}, {"text of 9", IsText("nine-byte"), false},
		{"number -1", isID(-1), false}, {"number 0", isID(0), true}, {"number 4095", isID(4095), true}, {"number 4096", isID(4096), false},
	} {
		if c.got != c.want {
			t.Errorf("%s: %t", c.what, c.got)
		}
	}
}
