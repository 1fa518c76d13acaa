package doorkeeper

import (
	"strings"
	"testing"

	"doorkeeper/api"
)

func TestValues(t *testing.T) {
	k := fresh(t, 200)
	a, b := k.login(t), k.login(t)
	gives(t, "P9: Get of none", "", api.ErrNone)(k.Get(a, "b"))
	for _, c := range [][2]string{
		{"b", "1"}, {"eight-by", "eightbyt"}, {"\x00\xff", ""}, {"b", ""}, {"b", "\xff\x00"}, {"eight-by", "2"},
	} {
		is(t, "P9: Set", k.Set(a, c[0], c[1]), api.OK)
		gives(t, "P9: Get", c[1], api.OK)(k.Get(a, c[0]))
		gives(t, "P9: Get of another session's", "", api.ErrNone)(k.Get(b, c[0]))
	}
	for _, name := range []string{"", "c", "B", "b\x00", "eight-b", "eight-by ", strings.Repeat("b", 1<<20)} {
		gives(t, "P9: Get of what was not set", "", api.ErrNone)(k.Get(a, name))
	}
	is(t, "P9: Set of a fourth", k.Set(a, "c", ""), api.ErrLimit)
	gives(t, "P9: Get of a fourth", "", api.ErrNone)(k.Get(a, "c"))
	is(t, "P9: Set in another session", k.Set(b, "c", "3"), api.OK)
	is(t, "P9: Set of one of three anew", k.Set(a, "\x00\xff", "4"), api.OK)
	for name, want := range map[string]string{"b": "\xff\x00", "eight-by": "2", "\x00\xff": "4"} {
		gives(t, "P9: Get at the end", want, api.OK)(k.Get(a, name))
	}
}

func TestValuesInAnyOrder(t *testing.T) {
	for _, names := range [][]string{{"a", "b", "c"}, {"c", "b", "a"}, {"b", "c", "a"}, {"b", "a", "c"}, {"aa", "a", "Z"}} {
		k := fresh(t, 200)
		pass := k.login(t)
		for _, name := range names {
			is(t, "P9: Set", k.Set(pass, name, name+"!"), api.OK)
		}
		again := opened(t, k.disk(t), plain)
		for _, name := range names {
			gives(t, "P9: Get", name+"!", api.OK)(k.Get(pass, name))
			gives(t, "P5: Get, opened again", name+"!", api.OK)(again.Get(pass, name))
		}
	}
}

func TestSetOfWhatMayNotBe(t *testing.T) {
	k := fresh(t, 200)
	pass := k.login(t)
	for _, c := range []struct{ name, value string }{
		{"", ""}, {"", "v"}, {"nine-byte", ""}, {"a", "nine-byte"}, {"ßßßßß", ""}, {"a", "€€€"},
		{strings.Repeat("n", 256+1), ""}, {"a", strings.Repeat("v", 256)}, {"a", strings.Repeat("v", 1<<22)},
	} {
		for _, p := range []string{pass, "", passOf(75)} {
			is(t, "P9: Set of what may not be", k.Set(p, c.name, c.value), api.ErrArg)
		}
	}
	gives(t, "P9: Get of what was not set", "", api.ErrNone)(k.Get(pass, "a"))
	k.tick(t, 10)
	is(t, "P9: Set of what may not be, when it is over", k.Set(pass, "", ""), api.ErrArg)
	gives(t, "P9: Live behind it", 1, api.OK)(k.Live())
}

// The pass is looked at ahead of the values.
func TestSetOfAFourthWhenItIsOver(t *testing.T) {
	k := fresh(t, 200)
	pass := k.login(t)
	for _, name := range []string{"a", "b", "c"} {
		is(t, "P9: Set", k.Set(pass, name, ""), api.OK)
	}
	k.tick(t, 10)
	gives(t, "P9: Get of none, when it is over", "", api.ErrExpired)(k.Get(pass, "d"))
	is(t, "P9: Set of a fourth, when it is over", k.Set(pass, "d", ""), api.ErrExpired)
	is(t, "P9: Set of a fourth, when it was ended", k.Set(pass, "d", ""), api.ErrNone)
}

// That there is no place for a fourth is told ahead of that there is no room,
// and a session is not used by it.
func TestSetOfAFourthUsesNothing(t *testing.T) {
	three := "\x01" + n(2, 5) + "\x01" + n(4, 0) + n(4, 0) + "\x03\x01a\x00\x01b\x00\x01c\x00"
	k := opened(t, diskOf(record(3, 0, three)), plain)
	k.tick(t, 9)
	is(t, "P9: Set of a fourth", k.Set(passOf(5), "d", ""), api.ErrLimit)
	k.tick(t, 1)
	is(t, "P9: Touch behind it", k.Touch(passOf(5)), api.ErrExpired)
}
