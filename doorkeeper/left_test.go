package doorkeeper

import (
	"math"
	"strings"
	"testing"

	"doorkeeper/api"
)

// Behind a call that has answered nothing is under way: there is but one disk,
// whatever is asked, and as often as it is asked.
func TestLeftBehindCalls(t *testing.T) {
	k := fresh(t, 40)
	numbers := []int{math.MinInt, -1, 0, 1, 2, 5, 31, 32, 33, 62, 63, 64, math.MaxInt}
	for _, call := range []func(){
		func() {},
		func() { k.Login(1) },
		func() { k.Set(passOf(74), "eight-by", "eight-by") },
		func() { k.Rotate(passOf(74)) },
		func() { k.Compact() },
		func() { k.Logout(passOf(74)) },
		func() { k.Tick(10) },
		func() { k.Touch(passOf(1528)) },
	} {
		call()
		want := k.Left(0, -1, 0)
		for _, keep := range numbers {
			for _, torn := range numbers {
				if got := k.Left(keep, torn, 7); got != want {
					t.Fatalf("P13: Left(%d, %d, 7) is another disk", keep, torn)
				}
			}
		}
	}
}

// Left hands the drive's sectors under way on just as it was asked for them.
func TestLeftOfWhatIsUnderWay(t *testing.T) {
	k := fresh(t, 12)
	x := strings.Repeat("x", 32)
	k.drive.Put(7*32, x)
	k.drive.Put(6*32, x)
	disk, _ := Format(12)
	for _, c := range []struct {
		keep, torn, part int
		six, seven       string
	}{
		{0, -1, 0, "", ""}, {1, -1, 0, "", x}, {2, -1, 0, x, ""}, {3, -1, 0, x, x}, {3, 0, 5, x, x[:5]}, {0, 1, 2, x[:2], ""}, {1, 2, 3, "", x},
	} {
		want := disk[:6*32] + fill(c.six, 32) + fill(c.seven, 32) + disk[8*32:]
		if got := k.Left(c.keep, c.torn, c.part); got != want {
			t.Errorf("P13: Left(%d, %d, %d) = %q, want %q", c.keep, c.torn, c.part, got, want)
		}
	}
}

// What Left told goes on as another keeper, and the first one does not see it.
func TestLeftOpenedAgain(t *testing.T) {
	k := fresh(t, 12)
	pass := k.login(t)
	is(t, "P9: Set", k.Set(pass, "a", "b"), api.OK)
	left := k.Left(-1, 0, 3)
	before := strings.Clone(left)
	again := opened(t, left, plain)
	gives(t, "P13: Get, opened again", "b", api.OK)(again.Get(pass, "a"))
	is(t, "P13: Logout, opened again", again.Logout(pass), api.OK)
	is(t, "P2: Touch of the first", k.Touch(pass), api.OK)
	is(t, "P11: Compact of the first", k.Compact(), api.OK)
	if left != before {
		t.Error("P13: what Left told has changed")
	}
}

// Open's noughts stand on the disk at once.
func TestLeftBehindOpen(t *testing.T) {
	snapshot := record(3, 0, "\x01"+session(5, 1, 0, 0))
	k := opened(t, diskOf(snapshot+strings.Repeat("x", 160-len(snapshot))), plain)
	if got := k.disk(t); got != diskOf(snapshot) {
		t.Errorf("P5, P13: behind Open the disk is %q", got)
	}
}
