package doorkeeper

import (
	"testing"

	"doorkeeper/api"
)

// Each change stands on the disk when the call that makes it has answered, in
// the document's bytes, behind the one ahead.
func TestChangesOnTheDisk(t *testing.T) {
	k := fresh(t, 100)
	region := record(1, 0, "\x00")
	number := 0
	stands := func(what, payload string) {
		t.Helper()
		if payload != "" {
			number++
			region += record(1, number, payload)
		}
		if want := fill(headOf(1, 0)+fill("", 32)+region, 3200); k.disk(t) != want {
			t.Fatalf("P6: behind %s the disk is another than with %q", what, payload)
		}
	}
	a := k.login(t)
	stands("Login", "L"+n(2, 74)+"\x01"+n(4, 0))
	k.tick(t, 3)
	stands("Tick", "")
	b := k.login(t)
	stands("Login", "L"+n(2, 1528)+"\x01"+n(4, 3))
	is(t, "P8: Touch", k.Touch(a), api.OK)
	stands("Touch", "T"+n(2, 74)+n(4, 3))
	is(t, "P9: Set", k.Set(a, "eight-by", "v"), api.OK)
	stands("Set", "S"+n(2, 74)+"\x08eight-by\x01v"+n(4, 3))
	is(t, "P9: Set", k.Set(b, "\x00", ""), api.OK)
	stands("Set", "S"+n(2, 1528)+"\x01\x00\x00"+n(4, 3))
	gives(t, "P9: Get", "v", api.OK)(k.Get(a, "eight-by"))
	stands("Get", "")
	k.tick(t, 4)
	gives(t, "P8: Rotate", passOf(drawn(2)), api.OK)(k.Rotate(b))
	stands("Rotate", "R"+n(2, 1528)+n(2, drawn(2))+n(4, 7))
	is(t, "P10: Logout", k.Logout(a), api.OK)
	stands("Logout", "X"+n(2, 74))
	gives(t, "P10: LogoutAll", 1, api.OK)(k.LogoutAll(1))
	stands("LogoutAll", "U\x01")
	gives(t, "P10: LogoutAll of none", 0, api.OK)(k.LogoutAll(1))
	stands("LogoutAll of none", "")
	c := k.login(t)
	stands("Login", "L"+n(2, drawn(3))+"\x01"+n(4, 7))
	k.tick(t, 10)
	gives(t, "P9: Get of what is over", "", api.ErrExpired)(k.Get(c, "a"))
	stands("Get of what is over", "")
	is(t, "P8: Touch of what is over", k.Touch(c), api.ErrExpired)
	stands("Touch of what is over", "X"+n(2, drawn(3)))
	is(t, "P8: Touch of none", k.Touch(c), api.ErrNone)
	is(t, "P8: Touch of no pass", k.Touch("v1"), api.ErrPass)
	stands("Touch of none", "")
}

// leaving is the region 0 of diskOf with a session 5 of user 1, and room for
// just so many bytes more (11 to 24): four changes of fitting length stand in
// it, and the first sets eight dots under eight n.
func leaving(room int) string {
	region := record(3, 0, "\x01"+session(5, 1, 0, 0))
	bytes := 160 - len(region) - room
	for i := 1; i <= 4; i++ {
		text := ""
		for len(text) < 8 && 20+len(text) < bytes-20*(4-i) {
			text += "."
		}
		name := "n"
		for 19+len(name)+len(text) < bytes-20*(4-i) && len(name) < 8 {
			name += "n"
		}
		set := record(3, i, "S"+n(2, 5)+n(1, len(name))+name+n(1, len(text))+text+n(4, 0))
		region += set
		bytes -= len(set)
	}
	return region
}

// Each call that makes a change, with the bytes that its record has.
var changing = []struct {
	what  string
	bytes int
	call  func(k *Keeper) api.Errno
}{
	{"Login", 18, func(k *Keeper) api.Errno { _, e := k.Login(2); return e }},
	{"Touch", 17, func(k *Keeper) api.Errno { return k.Touch(passOf(5)) }},
	{"Rotate", 19, func(k *Keeper) api.Errno { _, e := k.Rotate(passOf(5)); return e }},
	{"Set", 21, func(k *Keeper) api.Errno { return k.Set(passOf(5), "n", "v") }},
	{"Logout", 13, func(k *Keeper) api.Errno { return k.Logout(passOf(5)) }},
	{"LogoutAll", 12, func(k *Keeper) api.Errno { _, e := k.LogoutAll(1); return e }},
}

func TestChangesAtTheEndOfTheRegion(t *testing.T) {
	for _, c := range changing {
		for room := 11; room <= 24; room++ {
			region := leaving(room)
			if len(region) != 160-room {
				t.Fatalf("the test's own region leaves %d bytes, not %d", 160-len(region), room)
			}
			k := opened(t, diskOf(region), plain)
			e := c.call(k)
			if room >= c.bytes {
				is(t, "P6: "+c.what+" with room", e, api.OK)
				continue
			}
			is(t, "P6: "+c.what+" without room", e, api.ErrFull)
			gives(t, "P6: Live behind it", 1, api.OK)(k.Live())
			gives(t, "P6: Get behind it", "........", api.OK)(k.Get(passOf(5), "nnnnnnnn"))
			if k.disk(t) != diskOf(region) {
				t.Errorf("P6: %s without room, and the disk is another", c.what)
			}
		}
	}
}

// The region is full to its last byte, and the other one untouched by that.
func TestTheLastByteOfTheRegion(t *testing.T) {
	other := fill(record(2, 0, "\x00"), 160)
	disk := headOf(3, 0) + headOf(2, 1) + leaving(17) + fill("", 17) + other
	k := opened(t, disk, plain)
	is(t, "P6: Touch", k.Touch(passOf(5)), api.OK)
	want := headOf(3, 0) + headOf(2, 1) + leaving(17) + record(3, 5, "T"+n(2, 5)+n(4, 0)) + other
	if k.disk(t) != want {
		t.Errorf("P6: the disk is %q", k.disk(t))
	}
	for _, c := range changing {
		is(t, "P6: "+c.what+" without a byte of room", c.call(k), api.ErrFull)
	}
	if k.disk(t) != want {
		t.Errorf("P6: without room the disk is %q", k.disk(t))
	}
}

// Without room nothing changes but what was drawn.
func TestWithoutRoomADrawnNumberIsDrawn(t *testing.T) {
	k := opened(t, diskOf(leaving(18)), plain)
	gives(t, "P8: Rotate without room", "", api.ErrFull)(k.Rotate(passOf(5)))
	gives(t, "P7: Login", passOf(drawn(1)), api.OK)(k.Login(1))
	gives(t, "P7: Login without room", "", api.ErrFull)(k.Login(1))
}

func TestOverWithoutRoom(t *testing.T) {
	for _, c := range []struct {
		room int
		want api.Errno
		live int
	}{{12, api.ErrFull, 1}, {13, api.ErrExpired, 0}} {
		for _, call := range changing[1:5] {
			k := opened(t, diskOf(leaving(c.room)), plain)
			k.tick(t, 10)
			gives(t, "P8: Get of what is over", "", api.ErrExpired)(k.Get(passOf(5), "n"))
			is(t, "P8: "+call.what+" of what is over", call.call(k), c.want)
			gives(t, "P8: Live behind it", c.live, api.OK)(k.Live())
		}
	}
}
