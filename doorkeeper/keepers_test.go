package doorkeeper

import (
	"math"
	"strings"
	"testing"
	"unsafe"

	"doorkeeper/api"
)

func TestKeepersDoNotTouchOneAnother(t *testing.T) {
	disk := diskOf(record(3, 0, "\x01"+session(5, 1, 0, 0)))
	before := strings.Clone(disk)
	a, b := opened(t, disk, plain), opened(t, disk, plain)
	gives(t, "P7: Login", passOf(74), api.OK)(a.Login(1))
	is(t, "P9: Set", a.Set(passOf(5), "a", "of a"), api.OK)
	a.tick(t, 9)
	is(t, "P11: Compact", a.Compact(), api.OK)
	if b.disk(t) != disk {
		t.Error("P2: the disk of another keeper is another")
	}
	gives(t, "P2: Live of another keeper", 1, api.OK)(b.Live())
	gives(t, "P2: Get of another keeper", "", api.ErrNone)(b.Get(passOf(5), "a"))
	b.tick(t, 1)
	gives(t, "P2: Login of another keeper", passOf(74), api.OK)(b.Login(1))
	gives(t, "P2: LogoutAll of another keeper", 2, api.OK)(b.LogoutAll(1))
	gives(t, "P2: Get behind that", "of a", api.OK)(a.Get(passOf(5), "a"))
	gives(t, "P2: Live behind that", 2, api.OK)(a.Live())
	if disk != before {
		t.Error("P2: the disk that was handed in is another")
	}
}

// changeable is a text, and the means to make noughts of it: to see who has
// kept it.
func changeable(text string) (string, func()) {
	bytes := []byte(text)
	return unsafe.String(unsafe.SliceData(bytes), len(bytes)), func() { clear(bytes) }
}

func TestWhatIsHandedInIsNotKept(t *testing.T) {
	var wipes []func()
	lent := func(text string) string {
		text, wipe := changeable(text)
		wipes = append(wipes, wipe)
		return text
	}
	snapshot := "\x01" + session(5, 1, 0, 0)
	snapshot = snapshot[:len(snapshot)-1] + "\x01\x03own\x05value"
	c := plain
	c.Secret = lent("s")
	k := opened(t, lent(diskOf(record(3, 0, snapshot)+record(3, 1, "S"+n(2, 5)+"\x01c\x03new"+n(4, 0)))), c)
	is(t, "P9: Set", k.Set(lent(passOf(5)), lent("name"), lent("text")), api.OK)
	disk := k.disk(t)
	for _, wipe := range wipes {
		wipe()
	}
	if k.disk(t) != disk {
		t.Error("P2: the disk was kept that was handed in")
	}
	is(t, "P11: Compact when the texts handed in are gone", k.Compact(), api.OK)
	k = opened(t, k.disk(t), plain)
	for name, want := range map[string]string{"own": "value", "c": "new", "name": "text"} {
		gives(t, "P2: Get when the texts handed in are gone", want, api.OK)(k.Get(passOf(5), name))
	}
}

// Wrong things of all kinds: each call ends, and answers nothing but its error.
func TestAnyNumbersAndStrings(t *testing.T) {
	numbers := []int{math.MinInt, math.MinInt32, -1, 0, 1, 12, 99, 100, 4095, 4096, 65536, math.MaxInt32, math.MaxUint32, math.MaxInt}
	texts := []string{
		"", "\x00", "v1", passOf(5), passOf(6), passOf(4095), "v1fff0000", "nine-byte", "eight-by", "\xff\xfe\xfd", "ß",
		strings.Repeat("v1", 1<<16), diskOf(record(3, 0, "\x00")),
	}
	k := opened(t, fill(headOf(3, 0)+fill("", 32)+record(3, 0, "\x01"+session(5, 1, 0, 0)), 6400), plain)
	for _, number := range numbers {
		pass, e := k.Login(number)
		empty(t, "Login", pass, e)
		count, e := k.LogoutAll(number)
		empty(t, "LogoutAll", count, e)
		for _, other := range numbers {
			for _, left := range []string{k.Left(number, other, 7), k.Left(0, number, other), k.Left(other, 1, number)} {
				if left != k.disk(t) {
					t.Errorf("P13: Left of %d and %d is another disk", number, other)
				}
			}
		}
		k.Compact()
		if k.Tick(number) == api.OK && number != 0 && number != 1 {
			k = opened(t, k.disk(t), plain)
		}
	}
	for _, a := range texts {
		for _, b := range texts {
			k.Set(a, b, a)
			k.Set(a, b, b)
			text, e := k.Get(a, b)
			empty(t, "Get", text, e)
		}
		k.Touch(a)
		text, e := k.Rotate(a)
		empty(t, "Rotate", text, e)
		k.Logout(a)
		opens, e := Open(a, plain)
		empty(t, "Open", opens, e)
	}
}

func empty[T comparable](t *testing.T, what string, got T, e api.Errno) {
	t.Helper()
	var none T
	if e != api.OK && got != none {
		t.Errorf("P1: %s answers %v beside the error %d", what, got, e)
	}
}
