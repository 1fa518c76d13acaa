package doorkeeper

import (
	"math"
	"testing"

	"doorkeeper/api"
)

func TestLogout(t *testing.T) {
	k := fresh(t, 200)
	a, b := k.login(t), k.login(t)
	is(t, "P10: Logout", k.Logout(a), api.OK)
	is(t, "P10: Logout again", k.Logout(a), api.ErrNone)
	gives(t, "P10: Live", 1, api.OK)(k.Live())
	is(t, "P10: Touch of the other", k.Touch(b), api.OK)
	k.tick(t, 10)
	is(t, "P10: Logout of what is over", k.Logout(b), api.ErrExpired)
	gives(t, "P10: Live", 0, api.OK)(k.Live())
}

func TestLogoutAll(t *testing.T) {
	k := fresh(t, 200)
	users := []int{1, 99, 1, 50, 1, 99}
	for _, user := range users {
		if _, e := k.Login(user); e != api.OK {
			t.Fatalf("P7: Login(%d) = %d", user, e)
		}
	}
	k.tick(t, 10) // what is over is live as long as nobody has looked at it
	is(t, "P8: Touch of what is over", k.Touch(passOf(drawn(2))), api.ErrExpired)
	for _, c := range []struct{ user, count, live int }{
		{1, 2, 3}, {1, 0, 3}, {2, 0, 3}, {99, 2, 1}, {50, 1, 0}, {50, 0, 0},
	} {
		gives(t, "P10: LogoutAll", c.count, api.OK)(k.LogoutAll(c.user))
		gives(t, "P10: Live", c.live, api.OK)(k.Live())
	}
	is(t, "P10: Touch behind it", k.Touch(passOf(drawn(0))), api.ErrNone)
}

func TestLogoutAllOfNoUser(t *testing.T) {
	k := fresh(t, 200)
	k.login(t)
	for _, user := range noUsers {
		gives(t, "P10: LogoutAll of no user", 0, api.ErrArg)(k.LogoutAll(user))
	}
	gives(t, "P10: Live", 1, api.OK)(k.Live())
}

func TestTick(t *testing.T) {
	k := fresh(t, 200)
	for _, n := range []int{-1, math.MinInt, 1000000001, math.MaxInt} {
		is(t, "P10: Tick of what may not be", k.Tick(n), api.ErrArg)
	}
	pass := k.login(t)
	is(t, "P10: Tick of nothing", k.Tick(0), api.OK)
	k.tick(t, 9)
	is(t, "P10: Tick back", k.Tick(-9), api.ErrArg)
	is(t, "P10: Touch at 9", k.Touch(pass), api.OK)
	is(t, "P10: Tick beyond the end", k.Tick(1000000000-8), api.ErrArg)
	is(t, "P10: Touch, no time has gone by", k.Touch(pass), api.OK)
	is(t, "P10: Tick to the end", k.Tick(1000000000-9), api.OK)
	is(t, "P10: Tick of nothing at the end", k.Tick(0), api.OK)
	for _, n := range []int{1, math.MaxInt, -1} {
		is(t, "P10: Tick at the end", k.Tick(n), api.ErrArg)
	}
	k.login(t) // a login at the end of all time
	is(t, "P10: Touch at the end", k.Touch(passOf(drawn(1))), api.OK)
	again := opened(t, k.disk(t), plain)
	gives(t, "P5: Live, opened again", 2, api.OK)(again.Live())
}

func TestTickFromALateBeginning(t *testing.T) {
	disk, _ := Format(12)
	c := plain
	c.Now = 999999999
	k := opened(t, disk, c)
	is(t, "P10: Tick beyond the end", k.Tick(2), api.ErrArg)
	is(t, "P10: Tick to the end", k.Tick(1), api.OK)
	is(t, "P10: Tick beyond the end", k.Tick(1), api.ErrArg)
}
