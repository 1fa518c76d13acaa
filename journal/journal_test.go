package journal

import (
	"errors"
	"strings"
	"testing"

	"doorkeeper/drive"
	"doorkeeper/layout"
	"doorkeeper/sessions"
)

func fill(text string, bytes int) string { return text + strings.Repeat("\x00", bytes-len(text)) }

// diskOf is a disk of 12 sectors, of generation 3, with these bytes in region 0.
func diskOf(region string) string {
	return fill(layout.Head(3, 0), 64) + fill(region, 160) + strings.Repeat("other...", 20)
}

func opened(t *testing.T, disk string) (*Journal, *sessions.State, *drive.Drive) {
	t.Helper()
	d, err := drive.New(disk)
	if err != nil {
		t.Fatal(err)
	}
	j, s, err := Open(d)
	if err != nil {
		t.Fatal(err)
	}
	return j, s, d
}

var (
	none  = layout.Record(3, 0, "\x00")
	login = sessions.Change{Kind: sessions.Begun, ID: 7, User: 5, Time: 2}
)

func TestOpenMakesNoughtsBehindTheLastRecord(t *testing.T) {
	first := layout.Record(3, 1, login.Payload())
	for _, c := range []struct {
		what, behind string
		kept         int
	}{
		{"nothing", "", 0},
		{"bytes", strings.Repeat("x", 149), 0},
		{"a login", first, 18},
		{"a login and a byte", first + "x", 18},
		{"a login by half", first[:17], 0},
		{"a login twice", first + layout.Record(3, 2, login.Payload()), 18},
		{"a login of another generation", layout.Record(2, 1, login.Payload()), 0},
		{"a login of number 2", layout.Record(3, 2, login.Payload()), 0},
		{"a login of number 0", layout.Record(3, 0, login.Payload()), 0},
		{"a snapshot", layout.Record(3, 1, "\x00"), 0},
		{"an end of none, and a login", layout.Record(3, 1, "X\x07\x00") + layout.Record(3, 2, login.Payload()), 0},
		{"a login behind a byte", "\x00" + first, 0},
		{"a login and the last byte", fill(first, 148) + "x", 18},
	} {
		_, _, d := opened(t, diskOf(none+c.behind))
		if want := diskOf(none + c.behind[:c.kept]); d.Stable() != want {
			t.Errorf("P5: behind the snapshot %s: the disk is\n%q, want\n%q", c.what, d.Stable(), want)
		}
	}
}

func TestOpenOfEachRegion(t *testing.T) {
	begun := layout.Record(3, 0, "\x00") + layout.Record(3, 1, login.Payload())
	ended := layout.Record(4, 0, "\x00")
	for _, c := range []struct {
		what, disk string
		live       int
	}{
		{"region 0, head 0", layout.Head(3, 0) + fill("", 32) + fill(begun, 160) + fill("", 160), 1},
		{"region 0, head 1", fill("", 32) + layout.Head(3, 0) + fill(begun, 160) + fill("", 160), 1},
		{"region 1, head 0", layout.Head(3, 1) + fill("", 32) + fill("", 160) + fill(begun, 160), 1},
		{"region 1 of 13 sectors", layout.Head(3, 1) + fill("", 32) + fill("", 160) + fill(begun, 160) + fill("", 32), 1},
		{"region 1 of 14 sectors", layout.Head(3, 1) + fill("", 32) + fill("", 192) + fill(begun, 192), 1},
		{"the greater head", layout.Head(3, 0) + layout.Head(4, 1) + fill(begun, 160) + fill(ended, 160), 0},
		{"the greater head, first", layout.Head(4, 1) + layout.Head(3, 0) + fill(begun, 160) + fill(ended, 160), 0},
	} {
		_, s, d := opened(t, c.disk)
		if s.Live() != c.live {
			t.Errorf("P5: %s: %d live, want %d", c.what, s.Live(), c.live)
		}
		if d.Stable() != c.disk {
			t.Errorf("P5: %s: the disk is another", c.what)
		}
	}
}

func TestOpenRefuses(t *testing.T) {
	two := "\x02\x05\x00\x01" + fill("", 9) + "\x05\x00\x01" + fill("", 9)
	for _, c := range []struct {
		what, disk string
		err        error
	}{
		{"no head", fill("", 384), layout.ErrHead},
		{"no snapshot", diskOf(""), layout.ErrRecord},
		{"a snapshot of another generation", diskOf(layout.Record(2, 0, "\x00")), layout.ErrRecord},
		{"a snapshot of number 1", diskOf(layout.Record(3, 1, "\x00")), layout.ErrRecord},
		{"a snapshot behind a byte", diskOf("\x00" + none), layout.ErrRecord},
		{"an unfit snapshot", diskOf(layout.Record(3, 0, two)), sessions.ErrUnfit},
		{"a change of number 0", diskOf(layout.Record(3, 0, login.Payload())), sessions.ErrUnfit},
		{"the greater head's region is empty", layout.Head(3, 0) + layout.Head(4, 1) + fill(none, 160) + fill("", 160), layout.ErrRecord},
	} {
		d, _ := drive.New(c.disk)
		if j, s, err := Open(d); j != nil || s != nil || !errors.Is(err, c.err) {
			t.Errorf("P5: %s: %v, %v, %v", c.what, j, s, err)
		}
		if d.Stable() != c.disk {
			t.Errorf("P5: %s: the disk is another", c.what)
		}
	}
}

// A snapshot that would go on beyond its region is none, though all its bytes
// stand on the disk.
func TestOpenOfRecordsAtTheEndOfTheRegion(t *testing.T) {
	long := "\x01\x05\x00\x01" + fill("", 8) + "\x03\x01a\x08eight-by\x01b\x08eight-by\x01c\x08eight-by"
	set := func(number int, text string) string {
		change := sessions.Change{Kind: sessions.ValueSet, ID: 5, Name: "a", Text: text}
		return layout.Record(3, uint16(number), change.Payload())
	}
	records := layout.Record(3, 0, long) + set(1, "7654321") + set(2, "1234567") + set(3, "12345678")
	for _, c := range []struct {
		text string
		want string
	}{
		{"12", "12"}, {"123", "12345678"},
	} {
		region := records + set(4, c.text)
		if c.text == "12" && len(region) != 160 {
			t.Fatalf("the test's own region has %d bytes", len(region))
		}
		_, s, _ := opened(t, fill(fill(layout.Head(3, 0), 64)+region, 384))
		session, _ := s.Find(5)
		if got, _ := session.Value("a"); got != c.want {
			t.Errorf("P5: of %d bytes of records the value is %q, want %q", len(region), got, c.want)
		}
	}
}

func TestAppend(t *testing.T) {
	j, _, d := opened(t, diskOf(none))
	used := sessions.Change{Kind: sessions.Used, ID: 7, Time: 9}
	want := none
	for i, change := range []sessions.Change{login, used, used} {
		if err := j.Append(change); err != nil {
			t.Fatalf("P6: %v", err)
		}
		want += layout.Record(3, uint16(i+1), change.Payload())
		if d.Stable() != diskOf(want) {
			t.Errorf("P6: behind %d changes the disk is\n%q, want\n%q", i+1, d.Stable(), diskOf(want))
		}
	}
	j, s, d := opened(t, d.Stable())
	if err := j.Append(used); err != nil || s.Live() != 1 {
		t.Errorf("P6: opened again: %v, %d live", err, s.Live())
	}
	want += layout.Record(3, 4, used.Payload())
	if d.Stable() != diskOf(want) {
		t.Errorf("P6: opened again the disk is\n%q, want\n%q", d.Stable(), diskOf(want))
	}
}

func TestAppendOfTheLastNumber(t *testing.T) {
	j, _, d := opened(t, diskOf(none))
	j.number = 65535
	if err := j.Append(login); err != nil {
		t.Errorf("P6: with number 65535: %v", err)
	}
	want := diskOf(none + layout.Record(3, 65535, login.Payload()))
	if d.Stable() != want {
		t.Errorf("P6: with number 65535 the disk is %q", d.Stable())
	}
	if err := j.Append(login); !errors.Is(err, ErrFull) || d.Stable() != want {
		t.Errorf("P6: with number 65536: %v", err)
	}
}

// The other region, the other sector: each by itself, and what stands in the
// region in use and behind both regions stays.
func TestCompact(t *testing.T) {
	state := "\x01\x05\x00\x01" + fill("", 8) + "\x00"
	used := layout.Record(7, 1, sessions.Change{Kind: sessions.Used, ID: 5, Time: 9}.Payload())
	after := fill("\x01\x05\x00\x01\x00\x00\x00\x00\x09", 13)
	junk, rest := strings.Repeat("other...", 20), strings.Repeat("rest", 8)
	place := func(place int, there, other string) string {
		if place == 0 {
			return there + other
		}
		return other + there
	}
	for _, other := range []string{fill("", 32), layout.Head(6, 0), layout.Head(7, 1), strings.Repeat("head", 8)} {
		for _, c := range []struct{ sector, region int }{{0, 0}, {0, 1}, {1, 0}, {1, 1}} {
			if c.sector == 1 && other == layout.Head(7, 1) {
				continue // of two of one generation that in sector 0 is the head
			}
			head := layout.Head(7, uint8(c.region))
			before := fill(layout.Record(7, 0, state)+used, 160)
			j, s, d := opened(t, place(c.sector, head, other)+place(c.region, before, junk)+rest)
			if err := j.Compact(s); err != nil {
				t.Fatalf("P11: %v", err)
			}
			heads := place(c.sector, head, layout.Head(8, uint8(1-c.region)))
			record := layout.Record(8, 0, after)
			want := heads + place(c.region, before, fill(record, 160)) + rest
			if d.Stable() != want || d.Left(-1, -1, 0) != want {
				t.Errorf("P11: of %v the disk is\n%q, want\n%q", c, d.Stable(), want)
			}
			if err := j.Append(login); err != nil {
				t.Errorf("P11: a change behind it: %v", err)
			}
			record += layout.Record(8, 1, login.Payload())
			if want = heads + place(c.region, before, fill(record, 160)) + rest; d.Stable() != want {
				t.Errorf("P11: of %v behind a change the disk is\n%q, want\n%q", c, d.Stable(), want)
			}
		}
	}
}

// Compact and Compact again: to and fro, each time with what was changed.
func TestCompactToAndFro(t *testing.T) {
	j, s, d := opened(t, fill(layout.Head(1, 0)+fill("", 32)+layout.Record(1, 0, "\x00"), 384))
	for i := range 9 {
		change := sessions.Change{Kind: sessions.Begun, ID: i, User: 1, Time: i}
		if err := j.Append(change); err != nil {
			t.Fatalf("P11: change %d: %v", i, err)
		}
		s.Do(change)
		if err := j.Compact(s); err != nil {
			t.Fatalf("P11: Compact %d: %v", i, err)
		}
		head, err := layout.TheHead(d.Stable())
		if want := (layout.Place{Generation: uint32(i + 2), Region: uint8(1 - i%2), Sector: 1 - i%2}); head != want || err != nil {
			t.Errorf("P11: the head is %v, want %v", head, want)
		}
		if _, again, _ := opened(t, d.Stable()); again.Snapshot() != s.Snapshot() {
			t.Errorf("P11: opened again it has %q, want %q", again.Snapshot(), s.Snapshot())
		}
	}
}

func TestCompactOfTheLastGeneration(t *testing.T) {
	for _, c := range []struct {
		generation uint32
		want       error
	}{
		{1, nil}, {999999998, nil}, {999999999, nil},
		{1000000000, ErrFull}, {1000000001, ErrFull}, {1<<32 - 2, ErrFull}, {1<<32 - 1, ErrFull},
	} {
		j, s, d := opened(t, fill(layout.Head(c.generation, 0)+fill("", 32)+layout.Record(c.generation, 0, "\x00"), 384))
		before := d.Stable()
		if err := j.Compact(s); !errors.Is(err, c.want) {
			t.Errorf("P11: of generation %d: %v, want %v", c.generation, err, c.want)
		}
		if (d.Left(-1, -1, 0) == before) != (c.want != nil) {
			t.Errorf("P11: of generation %d the disk is %q", c.generation, d.Left(-1, -1, 0))
		}
		if err := j.Append(login); err != nil {
			t.Errorf("P11: of generation %d, a change behind it: %v", c.generation, err)
		}
		s.Do(login)
		if _, again, _ := opened(t, d.Stable()); again.Live() != 1 {
			t.Errorf("P11: of generation %d: %d live, opened again", c.generation, again.Live())
		}
	}
}

// crowd is six sessions with eleven values: a snapshot whose record fills a
// region of 160 bytes when the last value has four.
func crowd(last string) []sessions.Change {
	var changes []sessions.Change
	for id := range 6 {
		changes = append(changes, sessions.Change{Kind: sessions.Begun, ID: id, User: 1})
	}
	for i := range 10 {
		name := string([]byte{'a' + byte(i%2)})
		changes = append(changes, sessions.Change{Kind: sessions.ValueSet, ID: i / 2, Name: name, Text: "1234"})
	}
	return append(changes, sessions.Change{Kind: sessions.ValueSet, ID: 5, Name: "a", Text: last})
}

// A snapshot that fills its region to the last byte, and one that has a byte
// more: then nothing is written, and the old region goes on.
func TestCompactAtTheEndOfTheRegion(t *testing.T) {
	for _, c := range []struct {
		last  string
		bytes int
		want  error
	}{{"123", 159, nil}, {"1234", 160, nil}, {"12345", 161, ErrFull}, {"12345678", 164, ErrFull}} {
		j, s, d := opened(t, diskOf(none))
		for _, change := range crowd(c.last) {
			s.Do(change)
		}
		record := layout.Record(4, 0, s.Snapshot())
		if len(record) != c.bytes {
			t.Fatalf("the test's own snapshot has a record of %d bytes, not %d", len(record), c.bytes)
		}
		if err := j.Compact(s); !errors.Is(err, c.want) {
			t.Errorf("P11: of %d bytes: %v, want %v", c.bytes, err, c.want)
		}
		want, behind := diskOf(none), none+layout.Record(3, 1, login.Payload())
		if c.want == nil {
			want = layout.Head(3, 0) + layout.Head(4, 1) + fill(none, 160) + fill(record, 160)
		}
		if d.Stable() != want || d.Left(-1, -1, 0) != want {
			t.Errorf("P11: of %d bytes the disk is\n%q, want\n%q", c.bytes, d.Stable(), want)
		}
		err := j.Append(login)
		if c.want == nil && !errors.Is(err, ErrFull) {
			t.Errorf("P11: of %d bytes, a change behind it: %v", c.bytes, err)
		}
		if c.want != nil && (err != nil || d.Stable() != diskOf(behind)) {
			t.Errorf("P11: of %d bytes, a change behind it: %v, and the disk is %q", c.bytes, err, d.Stable())
		}
	}
}

// Compact gives room, and numbers, anew.
func TestCompactBehindTheLastNumber(t *testing.T) {
	j, s, d := opened(t, diskOf(none))
	j.number = 65536
	if err := j.Append(login); !errors.Is(err, ErrFull) {
		t.Errorf("P6: with number 65536: %v", err)
	}
	if err := j.Compact(s); err != nil {
		t.Errorf("P11: with number 65536: %v", err)
	}
	if err := j.Append(login); err != nil {
		t.Errorf("P11: with number 1 again: %v", err)
	}
	record := layout.Record(4, 0, "\x00") + layout.Record(4, 1, login.Payload())
	if want := layout.Head(3, 0) + layout.Head(4, 1) + fill(none, 160) + fill(record, 160); d.Stable() != want {
		t.Errorf("P11: with number 1 again the disk is\n%q, want\n%q", d.Stable(), want)
	}
}
