package doorkeeper

import (
	"math"
	"strings"
	"testing"

	"doorkeeper/api"
)

// Without power no other error is told but that of a name or a value, which Set
// tells first; and the disk stays.
func TestCallsWithoutPower(t *testing.T) {
	k := fresh(t, 200)
	for range 12 {
		k.login(t)
	}
	for _, name := range []string{"a", "b", "c"} {
		is(t, "P9: Set", k.Set(passOf(74), name, ""), api.OK)
	}
	k.tick(t, 9)
	is(t, "P8: Touch", k.Touch(passOf(74)), api.OK)
	k.tick(t, 1)
	k.Arm(1)
	is(t, "P12: Touch as the power goes", k.Touch(passOf(74)), api.ErrDown)
	disk := k.Left(1, -1, 0)
	withoutPower(t, k)
	if k.Left(1, -1, 0) != disk {
		t.Error("P12: without power the disk is another")
	}
	k = opened(t, headOf(1000000000, 0)+fill("", 32)+fill(record(1000000000, 0, "\x01"+session(5, 1, 0, 0)), 320), plain)
	k.Arm(2)
	gives(t, "P12: LogoutAll as the power goes", 0, api.ErrDown)(k.LogoutAll(1))
	withoutPower(t, k)
	k = opened(t, diskOf(leaving(12)), plain)
	k.Arm(2)
	gives(t, "P12: LogoutAll as the power goes", 0, api.ErrDown)(k.LogoutAll(1))
	withoutPower(t, k)
}

func withoutPower(t *testing.T, k *Keeper) {
	t.Helper()
	for _, user := range []int{1, 2, 99, 0, -1, 100, math.MaxInt} {
		gives(t, "P7: Login without power", "", api.ErrDown)(k.Login(user))
		gives(t, "P10: LogoutAll without power", 0, api.ErrDown)(k.LogoutAll(user))
	}
	for _, pass := range []string{passOf(74), passOf(1528), passOf(5), passOf(4095), "", "v1", strings.Repeat("v", 1<<16)} {
		for _, c := range looking {
			gives(t, "P8: "+c.what+" without power", "", api.ErrDown)(c.call(k, pass))
		}
		is(t, "P9: Set of a fourth without power", k.Set(pass, "d", ""), api.ErrDown)
		gives(t, "P9: Get of no name without power", "", api.ErrDown)(k.Get(pass, ""))
		is(t, "P9: Set without power and name", k.Set(pass, "", ""), api.ErrArg)
		is(t, "P9: Set without power, a name too long", k.Set(pass, "nine-byte", ""), api.ErrArg)
		is(t, "P9: Set without power, a value too long", k.Set(pass, "a", "nine-byte"), api.ErrArg)
	}
	for _, n := range []int{0, 1, -1, math.MinInt, math.MaxInt} {
		is(t, "P10: Tick without power", k.Tick(n), api.ErrDown)
	}
	gives(t, "P10: Live without power", 0, api.ErrDown)(k.Live())
	is(t, "P11: Compact without power", k.Compact(), api.ErrDown)
}
