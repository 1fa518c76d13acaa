package doorkeeper

import (
	"slices"
	"testing"

	"doorkeeper/api"
)

// teller tells a story to a keeper: of the users a to d, a letter for each.
type teller struct {
	k    *Keeper
	pass map[string]string
	dead []string // passes that are good for nothing
}

func (w *teller) login(who string, user int) api.Errno {
	pass, e := w.k.Login(user)
	if e == api.OK {
		w.pass[who] = pass
	}
	return e
}

func (w *teller) rotate(who string) api.Errno {
	pass, e := w.k.Rotate(w.pass[who])
	if e == api.OK {
		w.dead = append(w.dead, w.pass[who])
		w.pass[who] = pass
	}
	return e
}

// ends is a call that ends the session of a pass, if it answers what is wanted.
func (w *teller) ends(who string, want, e api.Errno) api.Errno {
	if e == want {
		w.dead = append(w.dead, w.pass[who])
	}
	return e
}

// story makes every change, in each row that matters, and Compact amid them.
var story = []func(w *teller) api.Errno{
	func(w *teller) api.Errno { return w.login("a", 1) },
	func(w *teller) api.Errno { return w.login("b", 2) },
	func(w *teller) api.Errno { return w.k.Set(w.pass["a"], "a", "x") },
	func(w *teller) api.Errno { return w.k.Touch(w.pass["b"]) },
	func(w *teller) api.Errno { return w.rotate("a") },
	func(w *teller) api.Errno { return w.k.Set(w.pass["a"], "eight-by", "eightbyt") },
	func(w *teller) api.Errno { return w.k.Compact() },
	func(w *teller) api.Errno { return w.k.Set(w.pass["a"], "a", "y") },
	func(w *teller) api.Errno { return w.ends("b", api.OK, w.k.Logout(w.pass["b"])) },
	func(w *teller) api.Errno { return w.login("c", 1) },
	func(w *teller) api.Errno { return w.k.Tick(9) },
	func(w *teller) api.Errno { return w.k.Touch(w.pass["c"]) },
	func(w *teller) api.Errno { return w.k.Tick(1) },
	func(w *teller) api.Errno { return w.ends("a", api.ErrExpired, w.k.Touch(w.pass["a"])) },
	func(w *teller) api.Errno { return w.k.Compact() },
	func(w *teller) api.Errno { return w.rotate("c") },
	func(w *teller) api.Errno { return w.login("d", 3) },
	func(w *teller) api.Errno { return w.k.Compact() },
	func(w *teller) api.Errno {
		_, e := w.k.LogoutAll(1)
		return w.ends("c", api.OK, e)
	},
	func(w *teller) api.Errno { return w.rotate("d") },
	func(w *teller) api.Errno { return w.k.Tick(10) },
	func(w *teller) api.Errno { return w.ends("d", api.ErrExpired, w.rotate("d")) },
	func(w *teller) api.Errno { return w.login("a", 99) },
	func(w *teller) api.Errno { return w.ends("a", api.OK, w.k.Logout(w.pass["a"])) },
	func(w *teller) api.Errno { return w.k.Compact() },
}

func newTeller(t *testing.T) *teller {
	t.Helper()
	return &teller{k: fresh(t, 14), pass: map[string]string{}}
}

// The power goes at each disk step of the story, and of the sectors under way
// any are done, and one by half.
func TestAfterThePowerWent(t *testing.T) {
	for at := 1; ; at++ {
		w, whole := newTeller(t), newTeller(t)
		w.k.Arm(at)
		down := slices.IndexFunc(story, func(call func(w *teller) api.Errno) bool {
			e, want := call(w), call(whole)
			if e != api.ErrDown {
				is(t, "P14: ahead of that", e, want)
			}
			if want != api.OK && want != api.ErrExpired {
				t.Fatalf("the test's own story answers %d", want)
			}
			return e == api.ErrDown
		})
		if down < 0 {
			if at < 60 {
				t.Fatalf("the test's own story has %d steps", at-1)
			}
			return
		}
		w.after(t, whole.k.sessions.Snapshot())
	}
}

// after opens all that may be left.
func (w *teller) after(t *testing.T, whole string) {
	t.Helper()
	seen := map[string]int{}
	for keep := range 1 << 6 {
		for torn := -1; torn < 6; torn++ {
			for _, part := range []int{0, 1, 2, 3, 7, 8, 9, 10, 11, 16, 17, 23, 31, 32} {
				seen[w.k.Left(keep, torn, part)]++
			}
		}
	}
	before := w.k.sessions.Snapshot()
	if none := opened(t, w.k.Left(0, -1, 0), plain); none.sessions.Snapshot() != before {
		t.Errorf("P14: nothing under way was done, and the sessions are %q, want %q", none.sessions.Snapshot(), before)
	}
	for left := range seen {
		w.goOn(t, left, before, whole)
	}
}

// goOn opens what was left. It asks for no time to go by, so that no pass is
// good for nothing by that alone.
func (w *teller) goOn(t *testing.T, left, before, whole string) {
	t.Helper()
	c := api.Config{Secret: "s", Seed: 7, Idle: 1000000000, Absolute: 1000000000, Now: w.k.now}
	k := opened(t, left, c)
	state := k.sessions.Snapshot()
	if state != before && state != whole {
		t.Errorf("P14: of %q the sessions are %q, want %q or %q", left, state, before, whole)
	}
	for _, pass := range w.dead {
		for _, look := range looking {
			gives(t, "P14: "+look.what+" with a pass that is good for nothing", "", api.ErrNone)(look.call(k, pass))
		}
	}
	if again := opened(t, k.disk(t), c); again.sessions.Snapshot() != state || again.disk(t) != k.disk(t) {
		t.Errorf("P14: of %q, opened twice, the sessions are %q, want %q", left, again.sessions.Snapshot(), state)
	}
	is(t, "P14: Compact, opened again", k.Compact(), api.OK)
	pass, e := k.Login(50)
	is(t, "P14: Login, opened again", e, api.OK)
	is(t, "P14: Logout, opened again", k.Logout(pass), api.OK)
	if again := opened(t, k.disk(t), c); again.sessions.Snapshot() != state {
		t.Errorf("P14: of %q, gone on, the sessions are %q, want %q", left, again.sessions.Snapshot(), state)
	}
}

// A change that was answered is there whatever becomes of the next one, and a
// change under way that was not done is gone for good: what goes on in its
// place does not bring it back.
func TestAfterAChangeThatWasNotDone(t *testing.T) {
	for keep := range 4 {
		for part := range 33 {
			k := fresh(t, 12)
			a := k.login(t)
			is(t, "P9: Set", k.Set(a, "a", "1"), api.OK)
			k.Arm(3) // the record, from byte 50 of the region on, lies in two sectors
			is(t, "P9: Set as the power goes", k.Set(a, "a", "2"), api.ErrDown)
			again := opened(t, k.Left(keep, 1, part), plain)
			value, e := again.Get(a, "a")
			done := keep%2 == 1 && part >= 7
			if want := map[bool]string{true: "2", false: "1"}[done]; value != want || e != api.OK {
				t.Errorf("P14: keep %d, %d bytes: the value is %q, %d, want %q", keep, part, value, e, want)
			}
			is(t, "P10: Logout in its place", again.Logout(a), api.OK)
			again = opened(t, again.disk(t), plain)
			gives(t, "P14: Live behind that", 0, api.OK)(again.Live())
			is(t, "P14: Touch behind that", again.Touch(a), api.ErrNone)
		}
	}
}

// A number that is drawn again is that of another session: its pass is good.
func TestAfterANumberIsDrawnAgain(t *testing.T) {
	k := fresh(t, 12)
	a := k.login(t)
	is(t, "P9: Set", k.Set(a, "a", "old"), api.OK)
	is(t, "P10: Logout", k.Logout(a), api.OK)
	k.Arm(1)
	gives(t, "P7: Login as the power goes", "", api.ErrDown)(k.Login(2))
	again := opened(t, k.Left(0, -1, 0), plain)
	is(t, "P14: Touch of what was logged out", again.Touch(a), api.ErrNone)
	gives(t, "P7: Login, opened again", a, api.OK)(again.Login(2))
	gives(t, "P14: Get of another session", "", api.ErrNone)(again.Get(a, "a"))
	is(t, "P14: Touch of another session", again.Touch(a), api.OK)
}
