package doorkeeper

import (
	"strings"
	"testing"

	"doorkeeper/api"
)

// withValues is one of a snapshot, with values as they stand there.
func withValues(id, user, created, used int, values ...string) string {
	text := session(id, user, created, used)
	return text[:len(text)-1] + n(1, len(values)) + strings.Join(values, "")
}

// The snapshot of all sessions begins the other region, and all goes on there.
func TestCompact(t *testing.T) {
	k := fresh(t, 13)
	a, b := k.login(t), k.login(t)
	for _, name := range []string{"z", "eight-by", "a"} {
		is(t, "P9: Set", k.Set(a, name, "of "+name[:1]), api.OK)
	}
	k.tick(t, 3)
	is(t, "P8: Touch", k.Touch(b), api.OK)
	before := k.disk(t)
	k.tick(t, 1)
	is(t, "P11: Compact", k.Compact(), api.OK)
	snapshot := record(2, 0, "\x02"+withValues(74, 1, 0, 0, "\x01a\x04of a", "\x08eight-by\x04of e", "\x01z\x04of z")+session(1528, 1, 0, 3))
	front := headOf(1, 0) + headOf(2, 1) + before[64:224]
	if got, want := k.disk(t), front+fill(snapshot, 192); got != want {
		t.Fatalf("P11: the disk is\n%q, want\n%q", got, want)
	}
	gives(t, "P11: Live", 2, api.OK)(k.Live())
	gives(t, "P11: Get", "of z", api.OK)(k.Get(a, "z"))
	is(t, "P11: Touch", k.Touch(a), api.OK)
	is(t, "P11: Logout", k.Logout(b), api.OK)
	gives(t, "P11: Login", passOf(drawn(2)), api.OK)(k.Login(9))
	changes := record(2, 1, "T"+n(2, 74)+n(4, 4)) + record(2, 2, "X"+n(2, 1528)) + record(2, 3, "L"+n(2, drawn(2))+"\x09"+n(4, 4))
	if got, want := k.disk(t), front+fill(snapshot+changes, 192); got != want {
		t.Fatalf("P11: behind three changes the disk is\n%q, want\n%q", got, want)
	}
	again := opened(t, k.disk(t), api.Config{Secret: "s", Idle: 10, Absolute: 30, Now: 4})
	gives(t, "P11: Live, opened again", 2, api.OK)(again.Live())
	gives(t, "P11: Get, opened again", "of e", api.OK)(again.Get(a, "eight-by"))
	is(t, "P11: Logout, opened again", again.Logout(b), api.ErrNone)
	is(t, "P11: Compact, opened again", again.Compact(), api.OK)
	third := record(3, 0, "\x02"+withValues(74, 1, 0, 4, "\x01a\x04of a", "\x08eight-by\x04of e", "\x01z\x04of z")+session(drawn(2), 9, 4, 4))
	if got, want := again.disk(t), headOf(3, 0)+headOf(2, 1)+fill(third, 160)+fill(snapshot+changes, 192); got != want {
		t.Errorf("P11: compacted again the disk is\n%q, want\n%q", got, want)
	}
}

// Compact uses no session and ends none, though it be over; and draws nothing.
func TestCompactLeavesSessionsAsTheyAre(t *testing.T) {
	k := fresh(t, 12)
	a := k.login(t)
	k.tick(t, 9)
	b := k.login(t)
	is(t, "P11: Compact", k.Compact(), api.OK)
	k.tick(t, 1)
	is(t, "P11: Compact", k.Compact(), api.OK)
	snapshot := record(3, 0, "\x02"+session(74, 1, 0, 0)+session(1528, 1, 9, 9))
	if got := k.disk(t)[64:224]; got != fill(snapshot, 160) {
		t.Errorf("P11: region 0 is %q, want %q", got, snapshot)
	}
	gives(t, "P11: Live", 2, api.OK)(k.Live())
	gives(t, "P11: Get of what is over", "", api.ErrExpired)(k.Get(a, "a"))
	is(t, "P11: Touch of what is over", k.Touch(a), api.ErrExpired)
	is(t, "P11: Touch of the other", k.Touch(b), api.OK)
	is(t, "P11: Compact", k.Compact(), api.OK)
	is(t, "P11: Touch of what was ended", k.Touch(a), api.ErrNone)
	gives(t, "P11: Live", 1, api.OK)(k.Live())
	gives(t, "P11: Login", passOf(drawn(2)), api.OK)(k.Login(1))
}

// Of each size, the whole of the other region is written, whatever stood in
// it, and no byte beside it and the head.
func TestCompactOfEachSize(t *testing.T) {
	for sectors := 12; sectors <= 200; sectors++ {
		half := (sectors - 2) / 2 * 32
		rest := strings.Repeat("r", 32*sectors-64-2*half)
		old := fill(record(7, 0, "\x01"+session(5, 1, 2, 3)), half)
		compacted := fill(record(8, 0, "\x01"+session(5, 1, 2, 3)), half)
		junk := strings.Repeat("j", half)
		k := opened(t, headOf(6, 1)+headOf(7, 1)+junk+old+rest, plain)
		is(t, "P11: Compact into region 0", k.Compact(), api.OK)
		if got := k.disk(t); got != headOf(8, 0)+headOf(7, 1)+compacted+old+rest {
			t.Errorf("P11: of %d sectors the disk is %q", sectors, got)
		}
		k = opened(t, headOf(7, 0)+strings.Repeat("h", 32)+old+junk+rest, plain)
		is(t, "P11: Compact into region 1", k.Compact(), api.OK)
		if got := k.disk(t); got != headOf(7, 0)+headOf(8, 1)+old+compacted+rest {
			t.Errorf("P11: of %d sectors the disk is %q", sectors, got)
		}
	}
}

// Twelve sessions, and the most of values.
func TestCompactOfTheMost(t *testing.T) {
	k := fresh(t, 200)
	byNumber := map[int]string{}
	for i := range 12 {
		pass := k.login(t)
		for _, name := range []string{"name-two", "name-one", "name-six"} {
			is(t, "P9: Set", k.Set(pass, name, "eightbyt"), api.OK)
		}
		byNumber[drawn(i)] = withValues(drawn(i), 1, 0, 0,
			"\x08name-one\x08eightbyt", "\x08name-six\x08eightbyt", "\x08name-two\x08eightbyt")
	}
	is(t, "P11: Compact", k.Compact(), api.OK)
	snapshot := "\x0c"
	for id := range 4096 {
		snapshot += byNumber[id]
	}
	if got := k.disk(t)[64+99*32:]; len(snapshot) != 793 || got != fill(record(2, 0, snapshot), 99*32) {
		t.Errorf("P11: region 1 is %q", got)
	}
	gives(t, "P11: Login of a thirteenth", "", api.ErrLimit)(k.Login(1))
	gives(t, "P11: LogoutAll", 12, api.OK)(k.LogoutAll(1))
	is(t, "P11: Compact of none", k.Compact(), api.OK)
	if got := k.disk(t)[64 : 64+99*32]; got != fill(record(3, 0, "\x00"), 99*32) {
		t.Errorf("P11: of no sessions region 0 is %q", got)
	}
}

func TestCompactGivesRoom(t *testing.T) {
	for _, c := range changing {
		k := opened(t, diskOf(leaving(11)), plain)
		is(t, "P6: "+c.what+" without room", c.call(k), api.ErrFull)
		is(t, "P11: Compact", k.Compact(), api.OK)
		gives(t, "P11: Get", "........", api.OK)(k.Get(passOf(5), "nnnnnnnn"))
		is(t, "P11: "+c.what+" behind Compact", c.call(k), api.OK)
	}
}

// As often as one likes: the regions take turns.
func TestCompactWithoutEnd(t *testing.T) {
	k := fresh(t, 12)
	pass := k.login(t)
	for i := range 1000 {
		is(t, "P8: Touch", k.Touch(pass), api.OK)
		is(t, "P11: Compact", k.Compact(), api.OK)
		generation := i + 2
		snapshot := record(generation, 0, "\x01"+session(74, 1, 0, 0))
		head, region := 32*((i+1)%2), 64+160*((i+1)%2)
		disk := k.disk(t)
		if disk[head:head+32] != headOf(generation, (i+1)%2) || disk[region:region+160] != fill(snapshot, 160) {
			t.Fatalf("P11: compacted %d times the disk is %q", i+1, disk)
		}
	}
}

func TestCompactOfTheLastGeneration(t *testing.T) {
	for _, c := range []struct {
		generation int
		want       api.Errno
	}{{999999999, api.OK}, {1000000000, api.ErrFull}, {1000000001, api.ErrFull}, {1<<32 - 1, api.ErrFull}} {
		login := record(c.generation, 1, "L"+n(2, 9)+"\x02"+n(4, 0))
		disk := headOf(c.generation, 0) + fill("", 32) + fill(record(c.generation, 0, "\x00")+login, 320)
		k := opened(t, disk, plain)
		is(t, "P11: Compact", k.Compact(), c.want)
		if c.want == api.OK {
			snapshot := record(1000000000, 0, "\x01"+session(9, 2, 0, 0))
			disk = disk[:32] + headOf(1000000000, 1) + disk[64:224] + fill(snapshot, 160)
		}
		if got := k.disk(t); got != disk {
			t.Errorf("P11: of generation %d the disk is\n%q, want\n%q", c.generation, got, disk)
		}
		is(t, "P11: Compact beyond", k.Compact(), api.ErrFull)
		if got := k.disk(t); got != disk {
			t.Errorf("P11: of generation %d, beyond, the disk is\n%q, want\n%q", c.generation, got, disk)
		}
		is(t, "P11: Touch behind it", k.Touch(passOf(9)), api.OK)
		gives(t, "P11: Live, opened again", 1, api.OK)(opened(t, k.disk(t), plain).Live())
	}
}
