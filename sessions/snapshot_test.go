package sessions

import (
	"errors"
	"strings"
	"testing"
)

const (
	times    = "\x00\x00\x00\x00\x00\x00\x00\x00"
	noValues = "\x00"
)

func TestReadSnapshot(t *testing.T) {
	twelve := "\x0c"
	for id := range 12 {
		twelve += string([]byte{byte(id), 0, 1}) + times + noValues
	}
	most := "\x03\x08aaaaaaaa\x08\x00\xff345678\x08aaaaaaab\x00\x08b\x00\x00\x00\x00\x00\x00\x00\x01z"
	for _, c := range []struct {
		what, payload string
		live          int
	}{
		{"none", "\x00", 0},
		{"one", "\x01\x00\x00\x01" + times + noValues, 1},
		{"the most of each", "\x01\xff\x0f\x63" + million + million + most, 1},
		{"twelve", twelve, 12},
		{"numbers rise by the low byte or the high", "\x03\xff\x00\x01" + times + noValues + "\x00\x01\x01" + times + noValues + "\x01\x01\x01" + times + noValues, 3},
		{"names rise byte by byte", "\x01\x05\x00\x01" + times + "\x03\x01Z\x00\x01a\x00\x02a\x00\x00", 1},
		{"bytes above 127 are the greater", "\x01\x05\x00\x01" + times + "\x02\x01z\x00\x01\x80\x00", 1},
		{"used ahead of its beginning", "\x01\x05\x00\x01" + million + "\x00\x00\x00\x00" + noValues, 1},
	} {
		s, err := ReadSnapshot(c.payload)
		if err != nil || s.Live() != c.live {
			t.Errorf("P5: a snapshot of %s is %v, %v", c.what, s, err)
		}
	}
	s, _ := ReadSnapshot("\x01\xff\x0f\x63" + million + "\x01\x02\x03\x04" + most)
	if got := s.told(4095); got != (told{4095, 99, 1000000000, 0x04030201}) {
		t.Errorf("P5: the session is %v", got)
	}
	s.has(t, 4095, "aaaaaaaa", "\x00\xff345678", true)
	s.has(t, 4095, "aaaaaaab", "", true)
	s.has(t, 4095, "b\x00\x00\x00\x00\x00\x00\x00", "z", true)
	s.has(t, 4095, "b", "", false)
}

// What is read is written byte for byte as it was.
func TestSnapshotOfWhatWasRead(t *testing.T) {
	twelve := "\x0c"
	for id := range 12 {
		twelve += string([]byte{byte(300 - 25*id), byte(id), byte(99 - id)}) + times + "\x01\x01a\x00"
	}
	for _, payload := range []string{
		"\x00",
		"\x01\x05\x00\x01" + times + noValues,
		"\x01\xff\x0f\x63" + million + "\x01\x02\x03\x04\x03\x08aaaaaaaa\x08\x00\xff345678\x08aaaaaaab\x00\x01b\x01z",
		"\x02\xff\x00\x02" + times + "\x02\x01Z\x00\x01a\x01x\x00\x01\x01" + times + "\x01\x01\x80\x00",
		twelve,
	} {
		s, err := ReadSnapshot(payload)
		if err != nil {
			t.Fatalf("P5: %q is not read: %v", payload, err)
		}
		for range 5 {
			if got := s.Snapshot(); got != payload {
				t.Errorf("P11: the snapshot is\n%q, want\n%q", got, payload)
			}
		}
	}
}

// Numbers and names rise, in whichever order they came.
func TestSnapshotBehindChanges(t *testing.T) {
	s, _ := ReadSnapshot("\x00")
	for _, c := range []struct {
		change Change
		want   string
	}{
		{Change{Kind: Begun, ID: 256, User: 2, Time: 1}, "\x01\x00\x01\x02\x01\x00\x00\x00\x01\x00\x00\x00\x00"},
		{Change{Kind: ValueSet, ID: 256, Name: "b", Text: "2", Time: 3}, "\x01\x00\x01\x02\x01\x00\x00\x00\x03\x00\x00\x00\x01\x01b\x012"},
		{Change{Kind: ValueSet, ID: 256, Name: "a", Time: 3}, "\x01\x00\x01\x02\x01\x00\x00\x00\x03\x00\x00\x00\x02\x01a\x00\x01b\x012"},
		{Change{Kind: ValueSet, ID: 256, Name: "b", Text: "new", Time: 4}, "\x01\x00\x01\x02\x01\x00\x00\x00\x04\x00\x00\x00\x02\x01a\x00\x01b\x03new"},
		{Change{Kind: Begun, ID: 255, User: 99, Time: 5}, "\x02\xff\x00\x63\x05\x00\x00\x00\x05\x00\x00\x00\x00\x00\x01\x02\x01\x00\x00\x00\x04\x00\x00\x00\x02\x01a\x00\x01b\x03new"},
		{Change{Kind: Renumbered, ID: 256, NewID: 1, Time: 6}, "\x02\x01\x00\x02\x01\x00\x00\x00\x06\x00\x00\x00\x02\x01a\x00\x01b\x03new\xff\x00\x63\x05\x00\x00\x00\x05\x00\x00\x00\x00"},
		{Change{Kind: Ended, ID: 1}, "\x01\xff\x00\x63\x05\x00\x00\x00\x05\x00\x00\x00\x00"},
		{Change{Kind: Used, ID: 255, Time: 1000000000}, "\x01\xff\x00\x63\x05\x00\x00\x00" + million + "\x00"},
		{Change{Kind: AllEnded, User: 99}, "\x00"},
	} {
		s.Do(c.change)
		if got := s.Snapshot(); got != c.want {
			t.Errorf("P11: behind %v the snapshot is\n%q, want\n%q", c.change, got, c.want)
		}
	}
}

func TestReadSnapshotRefuses(t *testing.T) {
	one := "\x01\x05\x00\x01" + times
	thirteen := "\x0d"
	for id := range 13 {
		thirteen += string([]byte{byte(id), 0, 1}) + times + noValues
	}
	for _, c := range []struct{ what, payload string }{
		{"nothing", ""},
		{"a byte more", "\x00\x00"},
		{"a byte behind a session", one + noValues + "\x00"},
		{"thirteen", thirteen},
		{"twelve that are called thirteen", thirteen[:len(thirteen)-12]},
		{"255 and none", "\xff"},
		{"number 4096", "\x01\x00\x10\x01" + times + noValues},
		{"user 0", "\x01\x05\x00\x00" + times + noValues},
		{"user 100", "\x01\x05\x00\x64" + times + noValues},
		{"created too late", "\x01\x05\x00\x01" + tooLate + "\x00\x00\x00\x00" + noValues},
		{"used too late", "\x01\x05\x00\x01\x00\x00\x00\x00" + tooLate + noValues},
		{"used far ahead", "\x01\x05\x00\x01\x00\x00\x00\x00" + farAhead + noValues},
		{"a number twice", "\x02\x05\x00\x01" + times + noValues + "\x05\x00\x01" + times + noValues},
		{"numbers that fall", "\x02\x05\x00\x01" + times + noValues + "\x04\x00\x01" + times + noValues},
		{"numbers that fall by the high byte", "\x02\x00\x01\x01" + times + noValues + "\xff\x00\x01" + times + noValues},
		{"four values", one + "\x04\x01a\x00\x01b\x00\x01c\x00\x01d\x00"},
		{"three values that are called four", one + "\x04\x01a\x00\x01b\x00\x01c\x00"},
		{"no name", one + "\x01\x00\x00"},
		{"a long name", one + "\x01\x09nine-byte\x00"},
		{"a long value", one + "\x01\x01a\x09nine-byte"},
		{"a name twice", one + "\x02\x01a\x00\x01a\x00"},
		{"names that fall", one + "\x02\x01b\x00\x01a\x00"},
		{"names that fall by length", one + "\x02\x02ab\x00\x01a\x00"},
	} {
		refusesSnapshot(t, c.what, c.payload)
	}
	whole := one + "\x01\x02ab\x03xyz"
	for i := range whole {
		refusesSnapshot(t, "a part of "+whole, whole[:i])
	}
	refusesSnapshot(t, "many bytes", strings.Repeat("\xff", 65535))
}

func refusesSnapshot(t *testing.T, what, payload string) {
	t.Helper()
	if s, err := ReadSnapshot(payload); s != nil || !errors.Is(err, ErrUnfit) {
		t.Errorf("P5: a snapshot of %s is %v, %v", what, s, err)
	}
}
