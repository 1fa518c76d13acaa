package sessions

import (
	"errors"
	"testing"
)

const (
	million  = "\x00\xca\x9a\x3b" // 10^9 in four bytes
	tooLate  = "\x01\xca\x9a\x3b"
	farAhead = "\xff\xff\xff\xff"
)

var changes = []struct {
	change  Change
	payload string
}{
	{Change{Kind: Begun, ID: 0, User: 1, Time: 0}, "L\x00\x00\x01\x00\x00\x00\x00"},
	{Change{Kind: Begun, ID: 4095, User: 99, Time: 1000000000}, "L\xff\x0f\x63" + million},
	{Change{Kind: Used, ID: 0x123, Time: 0x04030201}, "T\x23\x01\x01\x02\x03\x04"},
	{Change{Kind: Renumbered, ID: 0, NewID: 4095, Time: 5}, "R\x00\x00\xff\x0f\x05\x00\x00\x00"},
	{Change{Kind: Renumbered, ID: 4095, NewID: 0, Time: 1000000000}, "R\xff\x0f\x00\x00" + million},
	{Change{Kind: ValueSet, ID: 7, Name: "a", Text: "", Time: 6}, "S\x07\x00\x01a\x00\x06\x00\x00\x00"},
	{Change{Kind: ValueSet, ID: 7, Name: "eight-by", Text: "\x00\xff345678", Time: 6}, "S\x07\x00\x08eight-by\x08\x00\xff345678\x06\x00\x00\x00"},
	{Change{Kind: Ended, ID: 0xabc}, "X\xbc\x0a"},
	{Change{Kind: AllEnded, User: 1}, "U\x01"},
	{Change{Kind: AllEnded, User: 99}, "U\x63"},
}

func TestPayloadsOfChanges(t *testing.T) {
	for _, c := range changes {
		if got := c.change.Payload(); got != c.payload {
			t.Errorf("P6: %v is written % x, want % x", c.change, got, c.payload)
		}
		if got, err := ReadChange(c.payload); got != c.change || err != nil {
			t.Errorf("P5: % x is read as %v, %v, want %v", c.payload, got, err, c.change)
		}
	}
}

func TestChangesOfOtherLengths(t *testing.T) {
	for _, c := range changes {
		refusesChange(t, c.payload+"\x00")
		for i := range c.payload {
			refusesChange(t, c.payload[:i])
		}
	}
}

func TestChangesOutOfBounds(t *testing.T) {
	for _, payload := range []string{
		"", "\x00", "l\x00\x00\x01\x00\x00\x00\x00", "Z\x00\x00", "x\x00\x00",
		"L\x00\x10\x01\x00\x00\x00\x00", "L\xff\xff\x01\x00\x00\x00\x00",
		"L\x00\x00\x00\x00\x00\x00\x00", "L\x00\x00\x64\x00\x00\x00\x00", "L\x00\x00\xff\x00\x00\x00\x00",
		"L\x00\x00\x01" + tooLate, "L\x00\x00\x01" + farAhead,
		"T\x00\x10\x00\x00\x00\x00", "T\x00\x00" + tooLate,
		"R\x00\x10\x01\x00\x00\x00\x00\x00", "R\x01\x00\x00\x10\x00\x00\x00\x00", "R\x01\x00\x02\x00" + tooLate,
		"S\x00\x10\x01a\x00\x00\x00\x00\x00", "S\x00\x00\x00\x00\x00\x00\x00\x00", "S\x00\x00\x01a\x00" + tooLate,
		"S\x00\x00\x09nine-byte\x00\x00\x00\x00\x00", "S\x00\x00\x01a\x09nine-byte\x00\x00\x00\x00",
		"X\x00\x10", "U\x00", "U\x64",
	} {
		refusesChange(t, payload)
	}
}

func refusesChange(t *testing.T, payload string) {
	t.Helper()
	if got, err := ReadChange(payload); got != (Change{}) || !errors.Is(err, ErrUnfit) {
		t.Errorf("P5: % x is read as %v, %v", payload, got, err)
	}
}

// two has the sessions 5 (of user 1, with one value) and 9 (of user 2, with three).
func two(t *testing.T) *State {
	t.Helper()
	s, err := ReadSnapshot("\x02\x05\x00\x01\x03\x00\x00\x00\x04\x00\x00\x00\x01\x01a\x01x" +
		"\x09\x00\x02\x00\x00\x00\x00\x08\x00\x00\x00\x03\x01a\x00\x01b\x00\x01c\x00")
	if err != nil {
		t.Fatal(err)
	}
	return s
}

func TestAllows(t *testing.T) {
	for _, c := range []struct {
		change Change
		want   bool
	}{
		{Change{Kind: Begun, ID: 7, User: 1}, true},
		{Change{Kind: Begun, ID: 5, User: 1}, false},
		{Change{Kind: Used, ID: 5}, true},
		{Change{Kind: Used, ID: 7}, false},
		{Change{Kind: Renumbered, ID: 5, NewID: 7}, true},
		{Change{Kind: Renumbered, ID: 5, NewID: 9}, false},
		{Change{Kind: Renumbered, ID: 5, NewID: 5}, false},
		{Change{Kind: Renumbered, ID: 7, NewID: 8}, false},
		{Change{Kind: Renumbered, ID: 7, NewID: 5}, false},
		{Change{Kind: ValueSet, ID: 5, Name: "b"}, true},
		{Change{Kind: ValueSet, ID: 5, Name: "a"}, true},
		{Change{Kind: ValueSet, ID: 9, Name: "c"}, true},
		{Change{Kind: ValueSet, ID: 9, Name: "d"}, false},
		{Change{Kind: ValueSet, ID: 7, Name: "a"}, false},
		{Change{Kind: Ended, ID: 9}, true},
		{Change{Kind: Ended, ID: 7}, false},
		{Change{Kind: AllEnded, User: 2}, true},
		{Change{Kind: AllEnded, User: 3}, false},
	} {
		if got := two(t).Allows(c.change); got != c.want {
			t.Errorf("P5: %v is allowed: %t", c.change, got)
		}
	}
}

func TestAllowsTwelve(t *testing.T) {
	s := two(t)
	for id := range 10 {
		c := Change{Kind: Begun, ID: 100 + id, User: 3}
		if !s.Allows(c) {
			t.Fatalf("P5: with %d live a login is not allowed", s.Live())
		}
		s.Do(c)
	}
	if s.Allows(Change{Kind: Begun, ID: 7, User: 3}) {
		t.Error("P5: with 12 live a login is allowed")
	}
	if !s.Allows(Change{Kind: Renumbered, ID: 5, NewID: 7}) {
		t.Error("P5: with 12 live none is renumbered")
	}
}

// told is what is known of a session.
type told struct{ id, user, created, used int }

func (s *State) told(id int) told {
	session, found := s.Find(id)
	if !found {
		return told{}
	}
	return told{session.ID, session.user, session.created, session.used}
}

func TestDo(t *testing.T) {
	five, nine := told{5, 1, 3, 4}, told{9, 2, 0, 8}
	for _, c := range []struct {
		change              Change
		live                int
		want5, want7, want9 told
	}{
		{Change{Kind: Begun, ID: 7, User: 3, Time: 20}, 3, five, told{7, 3, 20, 20}, nine},
		{Change{Kind: Used, ID: 5, Time: 20}, 2, told{5, 1, 3, 20}, told{}, nine},
		{Change{Kind: Used, ID: 5, Time: 0}, 2, told{5, 1, 3, 0}, told{}, nine},
		{Change{Kind: ValueSet, ID: 9, Name: "a", Time: 20}, 2, five, told{}, told{9, 2, 0, 20}},
		{Change{Kind: Renumbered, ID: 5, NewID: 7, Time: 20}, 2, told{}, told{7, 1, 3, 20}, nine},
		{Change{Kind: Ended, ID: 5}, 1, told{}, told{}, nine},
		{Change{Kind: AllEnded, User: 2}, 1, five, told{}, told{}},
	} {
		s := two(t)
		s.Do(c.change)
		if s.Live() != c.live || s.told(5) != c.want5 || s.told(7) != c.want7 || s.told(9) != c.want9 {
			t.Errorf("P5: behind %v: %d live, %v, %v, %v", c.change, s.Live(), s.told(5), s.told(7), s.told(9))
		}
	}
}

func (s *State) has(t *testing.T, id int, name, want string, found bool) {
	t.Helper()
	session, _ := s.Find(id)
	if got, ok := session.Value(name); got != want || ok != found {
		t.Errorf("P9: session %d has %q under %q, %t, want %q, %t", id, got, name, ok, want, found)
	}
}

func TestDoSetsValues(t *testing.T) {
	s := two(t)
	s.Do(Change{Kind: ValueSet, ID: 5, Name: "b", Text: "bb"})
	s.Do(Change{Kind: ValueSet, ID: 5, Name: "B", Text: "upper"})
	s.Do(Change{Kind: ValueSet, ID: 5, Name: "a", Text: ""})
	for name, want := range map[string]string{"a": "", "b": "bb", "B": "upper"} {
		s.has(t, 5, name, want, true)
	}
	s.has(t, 5, "c", "", false)
	s.has(t, 9, "b", "", true)
	s.Do(Change{Kind: Renumbered, ID: 5, NewID: 7})
	s.has(t, 7, "b", "bb", true)
	s.Do(Change{Kind: Begun, ID: 5, User: 1})
	s.has(t, 5, "b", "", false)
	s.Do(Change{Kind: ValueSet, ID: 5, Name: "b", Text: "new"})
	s.has(t, 7, "b", "bb", true)
}

func TestDoEndsAllOfAUser(t *testing.T) {
	s := two(t)
	s.Do(Change{Kind: Begun, ID: 1, User: 2})
	s.Do(Change{Kind: Begun, ID: 2, User: 22})
	if s.Of(2) != 2 || s.Of(22) != 1 || s.Of(3) != 0 {
		t.Errorf("P10: user 2 has %d, 22 has %d, 3 has %d", s.Of(2), s.Of(22), s.Of(3))
	}
	s.Do(Change{Kind: AllEnded, User: 2})
	if s.Of(2) != 0 || s.Of(22) != 1 || s.Of(1) != 1 || s.Live() != 2 {
		t.Errorf("P10: %d live, user 2 has %d", s.Live(), s.Of(2))
	}
}
