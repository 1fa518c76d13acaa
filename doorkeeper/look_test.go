package doorkeeper

import (
	"strings"
	"testing"

	"doorkeeper/api"
)

// Each call that looks at a pass.
var looking = []struct {
	what string
	ends bool // what is over
	call func(k *Keeper, pass string) (string, api.Errno)
}{
	{"Get", false, func(k *Keeper, pass string) (string, api.Errno) { return k.Get(pass, "a") }},
	{"Touch", true, func(k *Keeper, pass string) (string, api.Errno) { return "", k.Touch(pass) }},
	{"Rotate", true, func(k *Keeper, pass string) (string, api.Errno) { return k.Rotate(pass) }},
	{"Set", true, func(k *Keeper, pass string) (string, api.Errno) { return "", k.Set(pass, "a", "b") }},
	{"Logout", true, func(k *Keeper, pass string) (string, api.Errno) { return "", k.Logout(pass) }},
}

func TestLookingAtNoPass(t *testing.T) {
	good := passOf(74)
	other, _ := Pass("other", 74)
	for _, c := range looking {
		k := fresh(t, 200)
		k.login(t)
		for _, pass := range []string{
			"", "v", good[:8], good + "0", " " + good, good + "\x00", "v2" + good[2:], "V" + good[1:], strings.ToUpper(good),
			"v104A" + good[5:], "v104b" + good[5:], good[:8] + "g", other, passOf(75)[:5] + good[5:],
			strings.Repeat("v", 1<<23), strings.Repeat("\xff", 9), strings.Repeat("\x00", 9), "v1 4a" + good[5:],
		} {
			gives(t, "P8: "+c.what+" of no pass", "", api.ErrPass)(c.call(k, pass))
		}
		for _, id := range []int{0, 73, 75, 4095, drawn(1)} {
			gives(t, "P8: "+c.what+" of no session", "", api.ErrNone)(c.call(k, passOf(id)))
		}
		gives(t, "P10: Live", 1, api.OK)(k.Live())
		gives(t, "P8: Rotate, nothing was drawn meanwhile", passOf(drawn(1)), api.OK)(k.Rotate(good))
	}
}

func TestLookingAtWhatIsOver(t *testing.T) {
	for _, c := range looking {
		for _, over := range []struct {
			what  string
			ticks []int
		}{{"idle", []int{10}}, {"long idle", []int{1000}}, {"absolute", []int{9, 9, 9, 3}}} {
			k := fresh(t, 200)
			pass := k.login(t)
			for i, n := range over.ticks {
				if i > 0 {
					is(t, "P8: Touch before that", k.Touch(pass), api.OK)
				}
				k.tick(t, n)
			}
			gives(t, "P8: "+c.what+", "+over.what, "", api.ErrExpired)(c.call(k, pass))
			if c.ends {
				gives(t, "P8: Live behind "+c.what, 0, api.OK)(k.Live())
				gives(t, "P8: "+c.what+" again", "", api.ErrNone)(c.call(k, pass))
			} else {
				gives(t, "P8: Live behind "+c.what, 1, api.OK)(k.Live())
				gives(t, "P8: "+c.what+" again", "", api.ErrExpired)(c.call(k, pass))
			}
			gives(t, "P7: Login, nothing was drawn meanwhile", passOf(drawn(1)), api.OK)(k.Login(1))
		}
	}
}

func TestLookingJustBeforeThat(t *testing.T) {
	for _, c := range looking[1:] {
		k := fresh(t, 200)
		pass := k.login(t)
		k.tick(t, 9)
		if _, e := c.call(k, pass); e != api.OK {
			t.Errorf("P8: %s at 9 = %d", c.what, e)
		}
	}
	k := fresh(t, 200)
	pass := k.login(t)
	is(t, "P9: Set", k.Set(pass, "a", "b"), api.OK)
	k.tick(t, 9)
	gives(t, "P9: Get at 9", "b", api.OK)(k.Get(pass, "a"))
	k.tick(t, 1)
	gives(t, "P9: Get does not use", "", api.ErrExpired)(k.Get(pass, "a"))
}

// What uses a session makes it live on, and the time of its login stays.
func TestUsing(t *testing.T) {
	using := map[string]func(k *Keeper, pass string) (string, api.Errno){
		"Touch":  func(k *Keeper, pass string) (string, api.Errno) { return pass, k.Touch(pass) },
		"Set":    func(k *Keeper, pass string) (string, api.Errno) { return pass, k.Set(pass, "a", "b") },
		"Rotate": func(k *Keeper, pass string) (string, api.Errno) { return k.Rotate(pass) },
	}
	for what, use := range using {
		k := fresh(t, 200)
		k.tick(t, 5)
		pass := k.login(t)
		var e api.Errno
		for _, ticks := range []int{9, 9, 9, 2} {
			k.tick(t, ticks)
			if pass, e = use(k, pass); e != api.OK {
				t.Fatalf("P8: %s = %d", what, e)
			}
		}
		k.tick(t, 1)
		is(t, "P8: Touch at 30, behind "+what, k.Touch(pass), api.ErrExpired)
	}
}

func TestRotate(t *testing.T) {
	k := fresh(t, 200)
	a, b := k.login(t), k.login(t)
	is(t, "P9: Set", k.Set(a, "a", "1"), api.OK)
	is(t, "P9: Set", k.Set(b, "a", "2"), api.OK)
	gives(t, "P8: Rotate", passOf(drawn(2)), api.OK)(k.Rotate(a))
	gives(t, "P8: Rotate of what was rotated away", "", api.ErrNone)(k.Rotate(a))
	gives(t, "P8: Get behind Rotate", "1", api.OK)(k.Get(passOf(drawn(2)), "a"))
	gives(t, "P8: Get of the other", "2", api.OK)(k.Get(b, "a"))
	gives(t, "P8: Rotate again", passOf(drawn(3)), api.OK)(k.Rotate(passOf(drawn(2))))
	gives(t, "P10: Live", 2, api.OK)(k.Live())
	gives(t, "P10: LogoutAll behind Rotate", 2, api.OK)(k.LogoutAll(1))
	gives(t, "P8: Get of what has ended", "", api.ErrNone)(k.Get(passOf(drawn(3)), "a"))
}

// A session that was begun or used ahead of the time is not over by that.
func TestSessionsAheadOfTheTime(t *testing.T) {
	c := api.Config{Secret: "s", Seed: 0, Idle: 1, Absolute: 1}
	k := opened(t, diskOf(record(3, 0, "\x01"+session(5, 1, 1000000000, 1000000000))), c)
	is(t, "P8: Touch of a session ahead", k.Touch(passOf(5)), api.OK)
	k.tick(t, 1)
	is(t, "P8: Touch when it was used one ago", k.Touch(passOf(5)), api.ErrExpired)
}
