package drive

import (
	"errors"
	"slices"
	"strings"
	"testing"

	"doorkeeper/layout"
)

func dots(sectors int) string { return strings.Repeat(".", 32*sectors) }

func fresh(t *testing.T) *Drive {
	t.Helper()
	d, err := New(dots(12))
	if err != nil {
		t.Fatal(err)
	}
	return d
}

func TestNewRefuses(t *testing.T) {
	for _, disk := range []string{"", dots(11), dots(201), dots(12) + "."} {
		if d, err := New(disk); d != nil || !errors.Is(err, layout.ErrSize) {
			t.Errorf("P5: New of %d bytes is %v, %v", len(disk), d, err)
		}
	}
}

func TestPut(t *testing.T) {
	long := strings.Repeat("0123456789", 10)
	for _, c := range []struct {
		begin   int
		text    string
		sectors []int
	}{
		{64, "x", []int{2}}, {95, "x", []int{2}}, {64, long[:32], []int{2}}, {75, long[:18], []int{2}},
		{95, "xy", []int{2, 3}}, {64, long[:33], []int{2, 3}}, {90, long, []int{2, 3, 4, 5}},
		{96, long[:96], []int{3, 4, 5}}, {383, "x", []int{11}}, {284, long, []int{8, 9, 10, 11}},
		{64, "", nil},
	} {
		d := fresh(t)
		d.Put(c.begin, c.text)
		if !slices.Equal(d.underWay, c.sectors) {
			t.Errorf("P6: %d bytes at %d are written to the sectors %v, want %v", len(c.text), c.begin, d.underWay, c.sectors)
		}
		if d.Stable() != dots(12) {
			t.Errorf("P6: %d bytes at %d are on the disk without a flush", len(c.text), c.begin)
		}
		d.Flush()
		want := dots(12)[:c.begin] + c.text + dots(12)[c.begin+len(c.text):]
		if d.Stable() != want {
			t.Errorf("P6: %d bytes at %d: behind the flush the disk is %q", len(c.text), c.begin, d.Stable())
		}
		if len(d.underWay) != 0 {
			t.Errorf("P6: behind a flush %v are under way", d.underWay)
		}
	}
}

func TestPutAgainWhileUnderWay(t *testing.T) {
	d := fresh(t)
	d.Put(96, "three")
	d.Put(64, "two")
	d.Put(99, "and on")
	if !slices.Equal(d.underWay, []int{3, 2}) {
		t.Errorf("the row of writes is %v", d.underWay)
	}
	d.Flush()
	want := dots(2) + "two" + dots(1)[3:] + "thrand on" + dots(1)[9:] + dots(8)
	if d.Stable() != want {
		t.Errorf("the disk is %q", d.Stable())
	}
}

func TestClear(t *testing.T) {
	d := fresh(t)
	d.Clear(70, 130)
	want := dots(12)[:70] + strings.Repeat("\x00", 60) + dots(12)[130:]
	if d.Stable() != want {
		t.Errorf("P5: made noughts without a flush, the disk is %q", d.Stable())
	}
	d.Put(69, "x")
	d.Flush()
	if want = want[:69] + "x" + want[70:]; d.Stable() != want {
		t.Errorf("P5: made noughts and then written, the disk is %q", d.Stable())
	}
	d.Clear(384, 384)
	if d.Stable() != want {
		t.Error("P5: no bytes made noughts, and the disk is another")
	}
}
