package layout

import (
	"errors"
	"strings"
	"testing"
)

func TestSectors(t *testing.T) {
	for _, sectors := range []int{12, 13, 199, 200} {
		if got, err := Sectors(32 * sectors); got != sectors || err != nil {
			t.Errorf("P5: Sectors(%d) = %d, %v", 32*sectors, got, err)
		}
	}
	for _, bytes := range []int{0, 1, 11 * 32, 12*32 - 1, 12*32 + 1, 200*32 + 1, 201 * 32} {
		if got, err := Sectors(bytes); got != 0 || !errors.Is(err, ErrSize) {
			t.Errorf("P5: Sectors(%d) = %d, %v", bytes, got, err)
		}
	}
}

func TestRegion(t *testing.T) {
	for _, c := range []struct {
		sectors    int
		region     uint8
		begin, end int
	}{
		{12, 0, 2, 7}, {12, 1, 7, 12}, {13, 0, 2, 7}, {13, 1, 7, 12}, {200, 0, 2, 101}, {200, 1, 101, 200},
	} {
		if begin, end := Region(c.sectors, c.region); begin != 32*c.begin || end != 32*c.end {
			t.Errorf("region %d of %d sectors is %d to %d", c.region, c.sectors, begin, end)
		}
	}
}

func TestTheHead(t *testing.T) {
	none := strings.Repeat("\x00", 32)
	high := uint32(1<<32 - 1)
	for _, c := range []struct {
		what string
		disk string
		want Place
	}{
		{"the first", Head(1, 0) + none, Place{1, 0, 0}},
		{"the second", none + Head(7, 1), Place{7, 1, 1}},
		{"the first is greater", Head(8, 1) + Head(7, 0), Place{8, 1, 0}},
		{"the second is greater", Head(7, 1) + Head(8, 0), Place{8, 0, 1}},
		{"two of one generation", Head(8, 1) + Head(8, 0), Place{8, 1, 0}},
		{"the greatest", Head(high, 1) + Head(high-1, 0), Place{high, 1, 0}},
		{"the greater is none", Head(8, 2) + Head(7, 1), Place{7, 1, 1}},
		{"and more behind", Head(1, 0) + none + Head(2, 1), Place{1, 0, 0}},
	} {
		if got, err := TheHead(c.disk); got != c.want || err != nil {
			t.Errorf("P5: %s: %v, %v", c.what, got, err)
		}
	}
	for _, disk := range []string{
		none + none, Head(0, 0) + none, Head(1, 2) + none, none + Head(1, 255), none + none + Head(1, 0),
	} {
		if got, err := TheHead(disk); got != (Place{}) || !errors.Is(err, ErrHead) {
			t.Errorf("P5: the head of % x is %v, %v", disk, got, err)
		}
	}
}

// Region and sector change over, each by itself: they need not be alike.
func TestNext(t *testing.T) {
	for _, c := range []struct{ place, want Place }{
		{Place{1, 0, 0}, Place{2, 1, 1}}, {Place{2, 1, 1}, Place{3, 0, 0}},
		{Place{7, 0, 1}, Place{8, 1, 0}}, {Place{999999999, 1, 0}, Place{1000000000, 0, 1}},
	} {
		if got := c.place.Next(); got != c.want {
			t.Errorf("P11: next of %v is %v, want %v", c.place, got, c.want)
		}
	}
}

// A head with any one byte another is none.
func TestTheHeadTouched(t *testing.T) {
	head, none := Head(0x01020304, 1), strings.Repeat("\x00", 32)
	for i := range len(head) {
		touched := head[:i] + string([]byte{head[i] ^ 1}) + head[i+1:]
		for _, disk := range []string{touched + none, none + touched} {
			if got, err := TheHead(disk); !errors.Is(err, ErrHead) {
				t.Errorf("P5: with byte %d touched: %v, %v", i, got, err)
			}
		}
	}
}

func TestReadRecord(t *testing.T) {
	for _, payload := range []string{"", "\x00", "X\x05\x00", strings.Repeat("long", 700)} {
		record := Record(0x01020304, 0xfeff, payload)
		for _, behind := range []string{"", "\x00", record} {
			got, bytes, err := ReadRecord(record+behind, 0x01020304, 0xfeff)
			if got != payload || bytes != len(record) || err != nil {
				t.Errorf("P5: the record of %.20q is read as %.20q, %d, %v", payload, got, bytes, err)
			}
		}
		for i := range len(record) {
			refusesRecord(t, record[:i], 0x01020304, 0xfeff)
			refusesRecord(t, record[:i]+string([]byte{record[i] ^ 1})+record[i+1:], 0x01020304, 0xfeff)
		}
		refusesRecord(t, record, 0x01020303, 0xfeff)
		refusesRecord(t, record, 0x01020304, 0xff)
	}
}

func refusesRecord(t *testing.T, text string, generation uint32, number uint16) {
	t.Helper()
	if got, bytes, err := ReadRecord(text, generation, number); got != "" || bytes != 0 || !errors.Is(err, ErrRecord) {
		t.Fatalf("P5: no record % .40x is read as %.20q, %d, %v", text, got, bytes, err)
	}
}
