package doorkeeper

import (
	"math"
	"testing"

	"doorkeeper/api"
)

// stepsOf tells how many disk steps a record has that begins at a byte.
func stepsOf(begin, bytes int) int { return (begin+bytes-1)/32 - begin/32 + 2 }

// Each call that makes a change, with its record at each place in a sector: the
// power goes at each of its steps, and at none behind them.
func TestArmAtEachStepOfAChange(t *testing.T) {
	for room := 24; room >= 11; room-- {
		for _, c := range changing {
			if c.bytes > room {
				continue
			}
			disk := diskOf(leaving(room))
			steps := stepsOf(64+160-room, c.bytes)
			for at := 1; at <= steps; at++ {
				k := opened(t, disk, plain)
				k.Arm(at)
				is(t, "P6, P12: "+c.what+" as the power goes", c.call(k), api.ErrDown)
				is(t, "P12: Tick behind it", k.Tick(0), api.ErrDown)
				if got := k.Left(0, -1, 0); got != disk {
					t.Errorf("P12: %s, the power goes at step %d of %d: the disk is %q", c.what, at, steps, got)
				}
			}
			k := opened(t, disk, plain)
			k.Arm(steps + 1)
			is(t, "P12: "+c.what+" ahead of that", c.call(k), api.OK)
			gives(t, "P10: LogoutAll of none", 0, api.OK)(k.LogoutAll(50))
			is(t, "P12: Compact as the power goes", k.Compact(), api.ErrDown)
		}
	}
}

// Of each size, Compact has the steps of a whole region, a head, and two flushes.
func TestArmAtEachStepOfCompact(t *testing.T) {
	for _, sectors := range []int{12, 13, 14, 200} {
		region := (sectors - 2) / 2
		for at := 1; at <= region+3; at++ {
			k := fresh(t, sectors)
			k.Arm(at)
			is(t, "P11, P12: Compact as the power goes", k.Compact(), api.ErrDown)
			is(t, "P11: Compact without power", k.Compact(), api.ErrDown)
		}
		k := fresh(t, sectors)
		k.Arm(region + 4)
		is(t, "P12: Compact ahead of that", k.Compact(), api.OK)
		gives(t, "P12: Login as the power goes", "", api.ErrDown)(k.Login(1))
	}
}

// What writes nothing has no disk step.
func TestArmCountsNothingElse(t *testing.T) {
	eleven := "\x0b"
	for id := range 11 {
		eleven += session(id, 1, 0, 0)
	}
	disk := fill(headOf(1000000000, 0)+fill("", 32)+record(1000000000, 0, eleven), 6400)
	k := opened(t, disk, plain)
	pass := k.login(t)
	for _, name := range []string{"a", "b", "c"} {
		is(t, "P9: Set", k.Set(pass, name, ""), api.OK)
	}
	k.Arm(1)
	gives(t, "P10: Live", 12, api.OK)(k.Live())
	gives(t, "P7: Login of no user", "", api.ErrArg)(k.Login(0))
	gives(t, "P7: Login of a thirteenth", "", api.ErrLimit)(k.Login(1))
	is(t, "P8: Touch of no pass", k.Touch(""), api.ErrPass)
	is(t, "P8: Touch of none", k.Touch(passOf(4095)), api.ErrNone)
	is(t, "P9: Set without a name", k.Set(pass, "", ""), api.ErrArg)
	is(t, "P9: Set of a fourth", k.Set(pass, "d", ""), api.ErrLimit)
	gives(t, "P9: Get", "", api.OK)(k.Get(pass, "a"))
	gives(t, "P9: Get of none", "", api.ErrNone)(k.Get(pass, "d"))
	gives(t, "P10: LogoutAll of no user", 0, api.ErrArg)(k.LogoutAll(0))
	gives(t, "P10: LogoutAll of none", 0, api.OK)(k.LogoutAll(2))
	is(t, "P11: Compact beyond the last generation", k.Compact(), api.ErrFull)
	k.tick(t, 10)
	gives(t, "P9: Get of what is over", "", api.ErrExpired)(k.Get(pass, "a"))
	k.disk(t)
	is(t, "P12: Touch as the power goes", k.Touch(pass), api.ErrDown)
}

// That there is no room for a change is told ahead of its steps.
func TestArmWithoutRoom(t *testing.T) {
	for _, c := range changing {
		k := opened(t, diskOf(leaving(11)), plain)
		k.Arm(1)
		is(t, "P6: "+c.what+" without room", c.call(k), api.ErrFull)
		gives(t, "P12: Get behind it", "........", api.OK)(k.Get(passOf(5), "nnnnnnnn"))
		is(t, "P12: Compact as the power goes", k.Compact(), api.ErrDown)
	}
	k := opened(t, diskOf(leaving(12)), plain)
	k.Arm(1)
	k.tick(t, 10)
	is(t, "P8: Touch of what is over, without room", k.Touch(passOf(5)), api.ErrFull)
	gives(t, "P10: LogoutAll as the power goes", 0, api.ErrDown)(k.LogoutAll(1))
}

// goes tells at which of many Logins and LogoutAlls, of two disk steps each or
// of three, the power goes: by the steps of those that were answered.
func (k *Keeper) goes(t *testing.T) (answered, steps int) {
	t.Helper()
	at := 64 + 11
	for i := range 40 {
		bytes, e := 18, api.OK
		if i%2 == 0 {
			_, e = k.Login(1)
		} else {
			bytes = 12
			_, e = k.LogoutAll(1)
		}
		if e == api.ErrDown {
			return answered, answered + stepsOf(at, bytes)
		}
		is(t, "P12: ahead of that", e, api.OK)
		answered += stepsOf(at, bytes)
		at += bytes
	}
	return 0, 0
}

func TestArm(t *testing.T) {
	for _, c := range []struct {
		arms []int
		want int
	}{
		{nil, 0}, {[]int{1}, 1}, {[]int{2}, 2}, {[]int{3}, 3}, {[]int{4}, 4}, {[]int{40}, 40}, {[]int{1000}, 0},
		{[]int{0}, 0}, {[]int{-1}, 0}, {[]int{math.MinInt}, 0}, {[]int{math.MaxInt}, 0},
		{[]int{1, 0}, 0}, {[]int{1, -1}, 0}, {[]int{3, 9}, 9}, {[]int{9, 3}, 3}, {[]int{0, 5}, 5}, {[]int{-4, 5}, 5}, {[]int{7, 0, 7}, 7},
	} {
		k := fresh(t, 200)
		for _, n := range c.arms {
			k.Arm(n)
		}
		if after, by := k.goes(t); c.want != 0 && (c.want <= after || c.want > by) || c.want == 0 && by != 0 {
			t.Errorf("P12: behind Arm of %v the power goes at one of the steps %d to %d, want %d", c.arms, after+1, by, c.want)
		}
	}
}

// A later Arm counts from its own time on.
func TestArmAnew(t *testing.T) {
	for _, c := range []struct {
		second int
		want   api.Errno
	}{{1, api.ErrDown}, {2, api.ErrDown}, {3, api.ErrDown}, {4, api.OK}, {0, api.OK}, {-1, api.OK}} {
		k := fresh(t, 200)
		k.Arm(3)
		pass := k.login(t) // two steps of these three
		k.Arm(c.second)
		is(t, "P8: Get", k.get(pass), api.ErrNone)
		_, e := k.LogoutAll(1) // three more
		is(t, "P12: LogoutAll behind a later Arm", e, c.want)
	}
}

func (k *Keeper) get(pass string) api.Errno {
	_, e := k.Get(pass, "none")
	return e
}

// When the power is gone Arm changes nothing.
func TestArmWithoutPower(t *testing.T) {
	for _, at := range []int{1, 2} {
		k := fresh(t, 12)
		k.Arm(at)
		gives(t, "P7: Login as the power goes", "", api.ErrDown)(k.Login(1))
		none, all := k.Left(0, -1, 0), k.Left(1, -1, 0)
		for _, n := range []int{0, 1, 2, 100, -1, math.MinInt, math.MaxInt} {
			k.Arm(n)
			withoutPower(t, k)
			if k.Left(0, -1, 0) != none || k.Left(1, -1, 0) != all {
				t.Errorf("P12: behind Arm(%d) without power the disk is another", n)
			}
		}
	}
}

// A keeper's power is its own, and one that is opened anew has it.
func TestArmOfAnotherKeeper(t *testing.T) {
	disk, _ := Format(12)
	a, b := opened(t, disk, plain), opened(t, disk, plain)
	a.Arm(1)
	b.login(t)
	gives(t, "P12: Login as the power goes", "", api.ErrDown)(a.Login(1))
	gives(t, "P2: Live of another keeper", 1, api.OK)(b.Live())
	is(t, "P2: Compact of another keeper", b.Compact(), api.OK)
	again := opened(t, a.Left(1, -1, 0), plain)
	for range 3 {
		is(t, "P12: Touch, opened again", again.Touch(passOf(74)), api.OK)
	}
	is(t, "P12: Touch of the first", a.Touch(passOf(74)), api.ErrDown)
}
