package drive

import (
	"errors"
	"math"
	"slices"
	"strings"
	"testing"

	"doorkeeper/layout"
)

func dots(sectors int) string { return strings.Repeat(".", 32*sectors) }

func fresh(t *testing.T) *Drive {
	t.Helper()
	d, err := New(dots(12))
	if err != nil {
		t.Fatal(err)
	}
	return d
}

func TestNewRefuses(t *testing.T) {
	for _, disk := range []string{"", dots(11), dots(201), dots(12) + "."} {
		if d, err := New(disk); d != nil || !errors.Is(err, layout.ErrSize) {
			t.Errorf("P5: New of %d bytes is %v, %v", len(disk), d, err)
		}
	}
}

func TestPut(t *testing.T) {
	long := strings.Repeat("0123456789", 10)
	for _, c := range []struct {
		begin   int
		text    string
		sectors []int
	}{
		{64, "x", []int{2}}, {95, "x", []int{2}}, {64, long[:32], []int{2}}, {75, long[:18], []int{2}},
		{95, "xy", []int{2, 3}}, {64, long[:33], []int{2, 3}}, {90, long, []int{2, 3, 4, 5}},
		{96, long[:96], []int{3, 4, 5}}, {383, "x", []int{11}}, {284, long, []int{8, 9, 10, 11}},
		{64, "", nil},
	} {
		d := fresh(t)
		d.Put(c.begin, c.text)
		if !slices.Equal(d.underWay, c.sectors) {
			t.Errorf("P6: %d bytes at %d are written to the sectors %v, want %v", len(c.text), c.begin, d.underWay, c.sectors)
		}
		if d.Stable() != dots(12) {
			t.Errorf("P6: %d bytes at %d are on the disk without a flush", len(c.text), c.begin)
		}
		d.Flush()
		want := dots(12)[:c.begin] + c.text + dots(12)[c.begin+len(c.text):]
		if d.Stable() != want {
			t.Errorf("P6: %d bytes at %d: behind the flush the disk is %q", len(c.text), c.begin, d.Stable())
		}
		if len(d.underWay) != 0 {
			t.Errorf("P6: behind a flush %v are under way", d.underWay)
		}
	}
}

func TestPutAgainWhileUnderWay(t *testing.T) {
	d := fresh(t)
	d.Put(96, "three")
	d.Put(64, "two")
	d.Put(99, "and on")
	if !slices.Equal(d.underWay, []int{3, 2}) {
		t.Errorf("the row of writes is %v", d.underWay)
	}
	d.Flush()
	want := dots(2) + "two" + dots(1)[3:] + "thrand on" + dots(1)[9:] + dots(8)
	if d.Stable() != want {
		t.Errorf("the disk is %q", d.Stable())
	}
}

func TestClear(t *testing.T) {
	d := fresh(t)
	d.Clear(70, 130)
	want := dots(12)[:70] + strings.Repeat("\x00", 60) + dots(12)[130:]
	if d.Stable() != want {
		t.Errorf("P5: made noughts without a flush, the disk is %q", d.Stable())
	}
	d.Put(69, "x")
	d.Flush()
	if want = want[:69] + "x" + want[70:]; d.Stable() != want {
		t.Errorf("P5: made noughts and then written, the disk is %q", d.Stable())
	}
	d.Clear(384, 384)
	if d.Stable() != want {
		t.Error("P5: no bytes made noughts, and the disk is another")
	}
}

func TestSectors(t *testing.T) {
	for _, sectors := range []int{12, 13, 200} {
		if d, err := New(dots(sectors)); err != nil || d.Sectors() != sectors {
			t.Errorf("a disk of %d sectors: %v", sectors, err)
		}
	}
}

func TestLeft(t *testing.T) {
	x := strings.Repeat("x", 32)
	// Under way, in this row: the sectors 5, 6, 7 and 2.
	at := func(five, six, seven, two string) string {
		over := func(text string) string { return text + dots(1)[len(text):] }
		return dots(2) + over(two) + dots(2) + over(five) + over(six) + over(seven) + dots(4)
	}
	for _, c := range []struct {
		keep, torn, part int
		want             string
	}{
		{0, -1, 0, at("", "", "", "")}, {-1, -1, 0, at(x, x, x, x)}, {15, -1, 0, at(x, x, x, x)},
		{1, -1, 0, at(x, "", "", "")}, {2, -1, 0, at("", x, "", "")}, {4, -1, 0, at("", "", x, "")}, {8, -1, 0, at("", "", "", x)},
		{5, -1, 7, at(x, "", x, "")}, {16, -1, 7, at("", "", "", "")}, {math.MaxInt, -1, 0, at(x, x, x, x)},
		{math.MinInt, -1, 0, at("", "", "", "")}, {math.MinInt + 2, -1, 0, at("", x, "", "")},
		{0, 0, 7, at(x[:7], "", "", "")}, {15, 0, 7, at(x[:7], x, x, x)}, {14, 3, 31, at("", x, x, x[:31])}, {6, 3, 1, at("", x, x, x[:1])},
		{15, 1, 0, at(x, "", x, x)}, {15, 1, -1, at(x, "", x, x)}, {15, 1, math.MinInt, at(x, "", x, x)},
		{0, 2, 32, at("", "", x, "")}, {0, 2, 33, at("", "", x, "")}, {0, 2, math.MaxInt, at("", "", x, "")},
		{5, 4, 7, at(x, "", x, "")}, {5, math.MaxInt, 7, at(x, "", x, "")}, {5, math.MinInt, 7, at(x, "", x, "")}, {5, 64, 7, at(x, "", x, "")},
	} {
		d := fresh(t)
		d.Put(5*32, x+x+x)
		d.Put(2*32, x)
		for range 2 { // for it is told, and nothing changes
			if got := d.Left(c.keep, c.torn, c.part); got != c.want {
				t.Errorf("P13: Left(%d, %d, %d) =\n%q, want\n%q", c.keep, c.torn, c.part, got, c.want)
			}
		}
		if d.Stable() != dots(12) {
			t.Errorf("P13: Left(%d, %d, %d) made the disk %q", c.keep, c.torn, c.part, d.Stable())
		}
	}
}

// A sector that is written again keeps its place, and is under way as it was
// written last: the bytes written ahead of that are in it, and the others are
// as they stood.
func TestLeftOfASectorWrittenAgain(t *testing.T) {
	d := fresh(t)
	d.Put(3*32, "three")
	d.Put(2*32, "two")
	d.Put(3*32+4, "E!")
	three, two := "threE!"+dots(1)[6:], "two"+dots(1)[3:]
	for _, c := range []struct {
		keep, torn, part int
		want             string
	}{
		{0, -1, 0, dots(12)}, {1, -1, 0, dots(3) + three + dots(8)}, {2, -1, 0, dots(2) + two + dots(9)},
		{3, -1, 0, dots(2) + two + three + dots(8)}, {4, -1, 0, dots(12)},
		{2, 0, 5, dots(2) + two + three[:5] + dots(9)[5:]}, {1, 1, 2, dots(2) + two[:2] + dots(1)[2:] + three + dots(8)},
		{0, 2, 9, dots(12)},
	} {
		if got := d.Left(c.keep, c.torn, c.part); got != c.want {
			t.Errorf("P13: Left(%d, %d, %d) =\n%q, want\n%q", c.keep, c.torn, c.part, got, c.want)
		}
	}
}

// Bit 62 tells of the sector in place 62 and of all behind it; bit 63 of none.
func TestLeftOfManySectors(t *testing.T) {
	disk := dots(200)
	x := strings.Repeat("x", 32)
	for _, c := range []struct {
		keep, torn, part int
		want             string
	}{
		{0, -1, 0, disk}, {-1, -1, 0, strings.Repeat(x, 200)},
		{1 << 62, -1, 0, dots(62) + strings.Repeat(x, 138)},
		{1 << 61, -1, 0, dots(61) + x + dots(138)},
		{1<<62 - 1, -1, 0, strings.Repeat(x, 62) + dots(138)},
		{math.MinInt, -1, 0, disk},
		{math.MaxInt, -1, 0, strings.Repeat(x, 200)},
		{1 << 62, 199, 3, dots(62) + strings.Repeat(x, 137) + x[:3] + dots(1)[3:]},
		{0, 199, 3, dots(199) + x[:3] + dots(1)[3:]},
		{1 << 62, 62, 3, dots(62) + x[:3] + dots(1)[3:] + strings.Repeat(x, 137)},
		{0, 63, 40, dots(63) + x + dots(136)},
		{1 << 62, 200, 3, dots(62) + strings.Repeat(x, 138)},
	} {
		d, err := New(disk)
		if err != nil {
			t.Fatal(err)
		}
		d.Put(0, strings.Repeat(x, 200))
		if got := d.Left(c.keep, c.torn, c.part); got != c.want {
			t.Errorf("P13: of 200 sectors Left(%d, %d, %d) = %q", c.keep, c.torn, c.part, got)
		}
	}
}

// Behind a flush nothing is under way, and a new row begins.
func TestLeftBehindAFlush(t *testing.T) {
	d := fresh(t)
	d.Put(2*32, "two")
	d.Put(3*32, "three")
	d.Flush()
	flushed := dots(2) + "two" + dots(1)[3:] + "three" + dots(1)[5:] + dots(8)
	for _, keep := range []int{0, 1, 2, -1} {
		if got := d.Left(keep, 0, 1); got != flushed {
			t.Errorf("P13: behind a flush Left(%d, 0, 1) = %q", keep, got)
		}
	}
	d.Put(4*32, "four")
	if got, want := d.Left(1, -1, 0), flushed[:4*32]+"four"+flushed[4*32+4:]; got != want {
		t.Errorf("P13: a write behind a flush: Left(1, -1, 0) = %q", got)
	}
	if got, want := d.Left(-1, 0, 2), flushed[:4*32]+"fo"+flushed[4*32+2:]; got != want {
		t.Errorf("P13: a write behind a flush: Left(-1, 0, 2) = %q", got)
	}
}
