package doorkeeper

import (
	"math"
	"strings"
	"testing"

	"doorkeeper/api"
)

// Behind a call that the power did not go at nothing is under way: there is but
// one disk, whatever is asked, and as often as it is asked.
func TestLeftBehindCalls(t *testing.T) {
	k := fresh(t, 40)
	numbers := []int{math.MinInt, -1, 0, 1, 2, 5, 31, 32, 33, 62, 63, 64, math.MaxInt}
	for _, call := range []func(){
		func() {},
		func() { k.Login(1) },
		func() { k.Set(passOf(74), "eight-by", "eight-by") },
		func() { k.Rotate(passOf(74)) },
		func() { k.Compact() },
		func() { k.Logout(passOf(74)) },
		func() { k.Tick(10) },
		func() { k.Touch(passOf(1528)) },
	} {
		call()
		want := k.Left(0, -1, 0)
		for _, keep := range numbers {
			for _, torn := range numbers {
				if got := k.Left(keep, torn, 7); got != want {
					t.Fatalf("P13: Left(%d, %d, 7) is another disk", keep, torn)
				}
			}
		}
	}
}

// A record that lies in the sectors 3 and 4, as the power goes at the flush.
func TestLeftOfARecordInTwoSectors(t *testing.T) {
	used := "T" + n(2, 5) + n(4, 0)
	region := record(3, 0, "\x01"+session(5, 1, 0, 0)) + record(3, 1, used) + record(3, 2, used)
	disk, whole := diskOf(region), diskOf(region+record(3, 3, used))
	at := func(three, four string) string { return disk[:96] + three + four + disk[160:] }
	three, four, newThree, newFour := disk[96:128], disk[128:160], whole[96:128], whole[128:160]
	if three == newThree || four == newFour || at(newThree, newFour) != whole {
		t.Fatal("the test's own record lies elsewhere")
	}
	k := opened(t, disk, plain)
	k.Arm(3)
	is(t, "P8: Touch as the power goes", k.Touch(passOf(5)), api.ErrDown)
	for _, c := range []struct {
		keep, torn, part int
		want             string
	}{
		{0, -1, 0, disk}, {1, -1, 0, at(newThree, four)}, {2, -1, 0, at(three, newFour)}, {3, -1, 0, whole}, {-1, -1, 7, whole},
		{4, -1, 0, disk}, {1 << 62, -1, 0, disk}, {math.MinInt, -1, 0, disk}, {math.MaxInt, -1, 0, whole},
		{0, 0, 32, at(newThree, four)}, {0, 1, 32, at(three, newFour)}, {0, 0, 33, at(newThree, four)}, {0, 1, math.MaxInt, at(three, newFour)},
		{3, 0, 0, at(three, newFour)}, {3, 1, 0, at(newThree, four)}, {3, 1, -1, at(newThree, four)}, {3, 0, math.MinInt, at(three, newFour)},
		{2, 0, 31, at(newThree[:31]+three[31:], newFour)}, {1, 1, 3, at(newThree, newFour[:3]+four[3:])}, {3, 1, 3, at(newThree, newFour[:3]+four[3:])},
		{3, 2, 3, whole}, {1, -2, 3, at(newThree, four)}, {2, math.MaxInt, 3, at(three, newFour)}, {2, math.MinInt, 3, at(three, newFour)},
	} {
		if got := k.Left(c.keep, c.torn, c.part); got != c.want {
			t.Errorf("P13: Left(%d, %d, %d) =\n%q, want\n%q", c.keep, c.torn, c.part, got, c.want)
		}
	}
}

// More sectors are under way than keep has bits: 99 of a region.
func TestLeftOfAWholeRegion(t *testing.T) {
	x := strings.Repeat("x", 32)
	region := fill(record(2, 0, "\x00"), 99*32)
	front := headOf(1, 0) + fill("", 32) + fill(record(1, 0, "\x00"), 99*32)
	k := opened(t, front+strings.Repeat(x, 99), plain)
	k.Arm(99)
	is(t, "P11: Compact as the power goes", k.Compact(), api.ErrDown)
	first, none := region[:32], region[32:64]
	for _, c := range []struct {
		keep, torn, part int
		want             string
	}{
		{0, -1, 0, strings.Repeat(x, 99)}, {-1, -1, 0, region}, {1, -1, 0, first + strings.Repeat(x, 98)}, {2, -1, 0, x + none + strings.Repeat(x, 97)},
		{1 << 61, -1, 0, strings.Repeat(x, 61) + none + strings.Repeat(x, 37)},
		{1 << 62, -1, 0, strings.Repeat(x, 62) + strings.Repeat(none, 37)},
		{1<<62 - 1, -1, 0, region[:62*32] + strings.Repeat(x, 37)},
		{math.MinInt, -1, 0, strings.Repeat(x, 99)}, {math.MaxInt, -1, 0, region},
		{1 << 62, 98, 5, strings.Repeat(x, 62) + strings.Repeat(none, 36) + none[:5] + x[5:]},
		{0, 98, 5, strings.Repeat(x, 98) + none[:5] + x[5:]},
		{1 << 62, 63, 0, strings.Repeat(x, 62) + none + x + strings.Repeat(none, 35)},
		{-1, 99, 5, region},
	} {
		if got := k.Left(c.keep, c.torn, c.part); got != front+c.want {
			t.Errorf("P13: of 99 sectors Left(%d, %d, %d) = %q", c.keep, c.torn, c.part, got)
		}
	}
}

// Behind the first flush of Compact the region is on the disk, whatever is
// kept, and the head alone is under way.
func TestLeftOfAHead(t *testing.T) {
	disk := headOf(3, 1) + headOf(2, 0) + strings.Repeat("other...", 20) + fill(record(3, 0, "\x00"), 160)
	compacted := fill(record(4, 0, "\x00"), 160) + disk[224:]
	for _, at := range []int{7, 8} {
		k := opened(t, disk, plain)
		k.Arm(at)
		is(t, "P11: Compact as the power goes", k.Compact(), api.ErrDown)
		for _, c := range []struct {
			keep, torn, part int
			head             string
		}{
			{0, -1, 0, headOf(2, 0)}, {1, -1, 0, headOf(4, 0)}, {-2, -1, 0, headOf(2, 0)}, {0, 0, 9, headOf(4, 0)},
			{1, 0, 3, headOf(4, 0)[:3] + headOf(2, 0)[3:]}, {1, 1, 3, headOf(4, 0)}, {1, 0, 2, headOf(2, 0)},
		} {
			if got, want := k.Left(c.keep, c.torn, c.part), headOf(3, 1)+c.head+compacted; got != want {
				t.Errorf("P11, P13: at step %d, Left(%d, %d, %d) =\n%q, want\n%q", at, c.keep, c.torn, c.part, got, want)
			}
		}
	}
}

// What Left told goes on as another keeper, and the first one does not see it.
func TestLeftOpenedAgain(t *testing.T) {
	k := fresh(t, 12)
	pass := k.login(t)
	is(t, "P9: Set", k.Set(pass, "a", "b"), api.OK)
	left := k.Left(-1, 0, 3)
	before := strings.Clone(left)
	again := opened(t, left, plain)
	gives(t, "P13: Get, opened again", "b", api.OK)(again.Get(pass, "a"))
	is(t, "P13: Logout, opened again", again.Logout(pass), api.OK)
	is(t, "P2: Touch of the first", k.Touch(pass), api.OK)
	is(t, "P11: Compact of the first", k.Compact(), api.OK)
	if left != before {
		t.Error("P13: what Left told has changed")
	}
}

// Open's noughts stand on the disk at once.
func TestLeftBehindOpen(t *testing.T) {
	snapshot := record(3, 0, "\x01"+session(5, 1, 0, 0))
	k := opened(t, diskOf(snapshot+strings.Repeat("x", 160-len(snapshot))), plain)
	if got := k.disk(t); got != diskOf(snapshot) {
		t.Errorf("P5, P13: behind Open the disk is %q", got)
	}
}
