package doorkeeper

import (
	"math"
	"testing"

	"doorkeeper/api"
)

func TestLogin(t *testing.T) {
	k := fresh(t, 200)
	for i, user := range []int{1, 99, 1, 50} {
		gives(t, "P7: Login", passOf(drawn(i)), api.OK)(k.Login(user))
		gives(t, "P10: Live", i+1, api.OK)(k.Live())
	}
	if passOf(drawn(0))[:5] != "v104a" || passOf(drawn(1))[:5] != "v15f8" {
		t.Error("P7: the test's own numbers")
	}
}

var noUsers = []int{0, -1, 100, 101, 256, 257, 1 << 32, 1<<32 + 1, math.MaxInt, math.MinInt}

func TestLoginOfNoUser(t *testing.T) {
	k := fresh(t, 200)
	for _, user := range noUsers {
		gives(t, "P7: Login of no user", "", api.ErrArg)(k.Login(user))
	}
	gives(t, "P10: Live", 0, api.OK)(k.Live())
	gives(t, "P7: Login behind that", passOf(drawn(0)), api.OK)(k.Login(1))
}

func TestLoginOfAThirteenth(t *testing.T) {
	k := fresh(t, 200)
	for range 12 {
		k.login(t)
	}
	k.tick(t, 1000) // they are over, but nobody has looked at them
	for range 20 {
		gives(t, "P7: Login of a thirteenth", "", api.ErrLimit)(k.Login(2))
	}
	gives(t, "P7: Login of a thirteenth and of no user", "", api.ErrArg)(k.Login(0))
	gives(t, "P10: Live", 12, api.OK)(k.Live())
	is(t, "P8: Touch of what is over", k.Touch(passOf(drawn(3))), api.ErrExpired)
	gives(t, "P7: Login of a twelfth, none was drawn meanwhile", passOf(drawn(12)), api.OK)(k.Login(2))
}

// withLive is a disk of a snapshot in which the first numbers that are drawn
// from Seed 0 on are live.
func withLive(t *testing.T, count int) string {
	t.Helper()
	live := map[int]bool{}
	for i := range count {
		live[drawn(i)] = true
	}
	if len(live) != count {
		t.Fatal("the test's own numbers are drawn twice")
	}
	snapshot := n(1, count)
	for id := range 4096 {
		if live[id] {
			snapshot += session(id, 1, 0, 0)
		}
	}
	region := fill(record(1, 0, snapshot), 99*32)
	return fill(headOf(1, 0)+fill("", 32)+region, 200*32)
}

func TestDrawingPastLiveNumbers(t *testing.T) {
	for count := range 8 {
		k := opened(t, withLive(t, count), plain)
		gives(t, "P7: Login", passOf(drawn(count)), api.OK)(k.Login(1))
		gives(t, "P7: Login", passOf(drawn(count+1)), api.OK)(k.Login(1))
	}
	for count := 1; count < 8; count++ {
		k := opened(t, withLive(t, count), plain)
		gives(t, "P8: Rotate", passOf(drawn(count)), api.OK)(k.Rotate(passOf(drawn(0))))
	}
}

func TestDrawingEightLiveNumbers(t *testing.T) {
	k := opened(t, withLive(t, 8), plain)
	gives(t, "P7: Login", "", api.ErrLimit)(k.Login(1))
	gives(t, "P7: Login, behind what was drawn", passOf(drawn(8)), api.OK)(k.Login(1))
	k = opened(t, withLive(t, 8), plain)
	gives(t, "P8: Rotate", "", api.ErrLimit)(k.Rotate(passOf(drawn(0))))
	is(t, "P8: Touch behind it", k.Touch(passOf(drawn(0))), api.OK)
	gives(t, "P8: Rotate, behind what was drawn", passOf(drawn(8)), api.OK)(k.Rotate(passOf(drawn(0))))
	k = opened(t, withLive(t, 11), plain)
	gives(t, "P7: Login", "", api.ErrLimit)(k.Login(1))
	gives(t, "P7: Login, the rest of the live ones drawn", passOf(drawn(11)), api.OK)(k.Login(1))
}

// From Seed 65536 on 0 is drawn always.
func TestDrawingOneNumberAlways(t *testing.T) {
	disk, _ := Format(200)
	c := plain
	c.Seed = 65536
	k := opened(t, disk, c)
	for range 3 {
		gives(t, "P7: Login", passOf(0), api.OK)(k.Login(1))
		gives(t, "P7: Login of another", "", api.ErrLimit)(k.Login(1))
		gives(t, "P8: Rotate", "", api.ErrLimit)(k.Rotate(passOf(0)))
		is(t, "P10: Logout", k.Logout(passOf(0)), api.OK)
	}
}
