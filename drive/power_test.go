package drive

import (
	"errors"
	"math"
	"slices"
	"strings"
	"testing"
)

// step is the i-th of a row of disk steps: a write, a write, a flush, and so on.
func step(d *Drive, i int) error {
	if i%3 == 0 {
		return d.Flush()
	}
	return d.Put(32*(i%12), "x")
}

// goesAt tells at which of thirty disk steps the power goes, or 0.
func goesAt(t *testing.T, d *Drive) int {
	t.Helper()
	for i := 1; i <= 30; i++ {
		err := step(d, i)
		if d.IsDown() != (err != nil) || err != nil && !errors.Is(err, ErrDown) {
			t.Fatalf("P12: step %d: %v, and that the power is gone is %v", i, err, d.IsDown())
		}
		if err != nil {
			return i
		}
	}
	return 0
}

func TestArm(t *testing.T) {
	for _, c := range []struct {
		arms []int
		want int
	}{
		{nil, 0}, {[]int{1}, 1}, {[]int{2}, 2}, {[]int{3}, 3}, {[]int{4}, 4}, {[]int{29}, 29}, {[]int{30}, 30}, {[]int{31}, 0},
		{[]int{0}, 0}, {[]int{-1}, 0}, {[]int{-2}, 0}, {[]int{math.MinInt}, 0}, {[]int{math.MaxInt}, 0},
		{[]int{1, 0}, 0}, {[]int{1, -1}, 0}, {[]int{1, math.MinInt}, 0}, {[]int{0, 1}, 1}, {[]int{-1, 2}, 2},
		{[]int{2, 5}, 5}, {[]int{5, 2}, 2}, {[]int{1, 1}, 1}, {[]int{math.MaxInt, 3}, 3}, {[]int{3, 0, 6}, 6},
	} {
		d := fresh(t)
		for _, n := range c.arms {
			d.Arm(n)
		}
		if got := goesAt(t, d); got != c.want {
			t.Errorf("P12: behind Arm of %v the power goes at step %d, want %d", c.arms, got, c.want)
		}
	}
}

// A later Arm counts from its own time on.
func TestArmBetweenSteps(t *testing.T) {
	for _, c := range []struct{ first, steps, second, want int }{
		{4, 3, 4, 4}, {4, 3, 1, 1}, {4, 1, 3, 3}, {4, 3, 0, 0}, {4, 3, -7, 0}, {0, 5, 2, 2}, {9, 2, 20, 20},
	} {
		d := fresh(t)
		d.Arm(c.first)
		for i := 1; i <= c.steps; i++ {
			if err := step(d, i); err != nil {
				t.Fatalf("P12: Arm(%d), step %d: %v", c.first, i, err)
			}
		}
		d.Arm(c.second)
		if got := goesAt(t, d); got != c.want {
			t.Errorf("P12: Arm(%d), %d steps, Arm(%d): the power goes at step %d, want %d", c.first, c.steps, c.second, got, c.want)
		}
	}
}

// A write at which the power goes is under way, and none behind it.
func TestWriteAtWhichThePowerGoes(t *testing.T) {
	x := strings.Repeat("x", 96)
	for at := 1; at <= 3; at++ {
		d := fresh(t)
		d.Arm(at)
		if err := d.Put(5*32, x); !errors.Is(err, ErrDown) {
			t.Errorf("P12: Put as the power goes at sector %d: %v", at, err)
		}
		if want := []int{5, 6, 7}[:at]; !slices.Equal(d.underWay, want) {
			t.Errorf("P12: the power goes at sector %d: under way are %v, want %v", at, d.underWay, want)
		}
		if got := d.Left(0, -1, 0); got != dots(12) {
			t.Errorf("P13: the power goes at sector %d: with none kept the disk is %q", at, got)
		}
		if got, want := d.Left(-1, -1, 0), dots(5)+x[:32*at]+dots(7-at); got != want {
			t.Errorf("P13: the power goes at sector %d: with all kept the disk is %q", at, got)
		}
		if got, want := d.Left(-1, at-1, 9), dots(5)+x[:32*at-23]+dots(8 - at)[9:]; got != want {
			t.Errorf("P13: the power goes at sector %d: with that torn the disk is %q", at, got)
		}
	}
}

// A flush at which the power goes is not done; all is under way still.
func TestFlushAtWhichThePowerGoes(t *testing.T) {
	x := strings.Repeat("x", 96)
	d := fresh(t)
	d.Arm(4)
	if err := d.Put(5*32, x); err != nil {
		t.Errorf("P12: Put ahead of that: %v", err)
	}
	if err := d.Flush(); !errors.Is(err, ErrDown) {
		t.Errorf("P12: Flush as the power goes: %v", err)
	}
	if d.Left(0, -1, 0) != dots(12) || d.Left(5, -1, 0) != dots(5)+x[:32]+dots(1)+x[:32]+dots(4) {
		t.Errorf("P12: the power goes at a flush: the disk is %q", d.Left(0, -1, 0))
	}
	d = fresh(t)
	d.Arm(5)
	if d.Put(5*32, x) != nil || d.Flush() != nil || d.IsDown() {
		t.Error("P12: the power goes ahead of its step")
	}
	if got := d.Left(0, -1, 0); got != dots(5)+x+dots(4) {
		t.Errorf("P12: a flush ahead of that: the disk is %q", got)
	}
	if err := d.Flush(); !errors.Is(err, ErrDown) {
		t.Errorf("P12: a flush of nothing is a step too: %v", err)
	}
}

// A sector that is written again, and at that the power goes: it is under way
// as it is written last, where it stood.
func TestWriteAgainAtWhichThePowerGoes(t *testing.T) {
	d := fresh(t)
	d.Arm(3)
	if d.Put(3*32, "three") != nil || d.Put(2*32, "two") != nil || !errors.Is(d.Put(3*32+4, "E!"), ErrDown) {
		t.Error("P12: the power does not go at the third write")
	}
	if got, want := d.Left(1, -1, 0), dots(3)+"threE!"+dots(9)[6:]; got != want {
		t.Errorf("P13: the disk is %q, want %q", got, want)
	}
}

// Without power nothing comes about any more, and Arm changes nothing.
func TestWithoutPower(t *testing.T) {
	x := strings.Repeat("x", 64)
	for _, at := range []int{1, 2, 3} {
		d := fresh(t)
		d.Arm(at)
		_ = d.Put(5*32, x)
		_ = d.Flush()
		if !d.IsDown() {
			t.Fatalf("P12: there is power behind step %d", at)
		}
		none, one, all := d.Left(0, -1, 0), d.Left(-1, 0, 9), d.Left(-1, -1, 0)
		for _, n := range []int{0, 1, 2, -1, math.MinInt, math.MaxInt} {
			d.Arm(n)
			for _, begin := range []int{0, 5 * 32, 6*32 + 9} {
				if err := d.Put(begin, "more"+x); !errors.Is(err, ErrDown) {
					t.Errorf("P12: Put without power, behind Arm(%d): %v", n, err)
				}
			}
			if err := d.Flush(); !errors.Is(err, ErrDown) {
				t.Errorf("P12: Flush without power, behind Arm(%d): %v", n, err)
			}
			if !d.IsDown() {
				t.Errorf("P12: behind Arm(%d) there is power again", n)
			}
		}
		if d.Left(0, -1, 0) != none || d.Left(-1, 0, 9) != one || d.Left(-1, -1, 0) != all {
			t.Errorf("P12: the power gone at step %d, the disk is another later", at)
		}
	}
}

func TestPowerOfAnotherDrive(t *testing.T) {
	a, b := fresh(t), fresh(t)
	a.Arm(1)
	if goesAt(t, a) != 1 || goesAt(t, b) != 0 {
		t.Error("P2: the power of one drive is that of another")
	}
}
