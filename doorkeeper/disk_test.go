package doorkeeper

import (
	"strings"
	"testing"

	"doorkeeper/api"
)

// What the document says of the disk, once more, in its plainest form.

// n writes a number in so many bytes, the low one first.
func n(width, x int) string {
	text := ""
	for range width {
		text += string([]byte{byte(x)})
		x >>= 8
	}
	return text
}

func summed(text string) string { return text + n(2, plainSum(text)) }

func record(generation, number int, payload string) string {
	return summed(n(2, len(payload)) + n(4, generation) + n(2, number) + payload)
}

func fill(text string, bytes int) string { return text + strings.Repeat("\x00", bytes-len(text)) }

func headOf(generation, region int) string {
	return fill(summed("DK"+n(4, generation)+n(1, region)), 32)
}

// session is one of a snapshot, without values.
func session(id, user, created, used int) string {
	return n(2, id) + n(1, user) + n(4, created) + n(4, used) + "\x00"
}

// diskOf is a disk of 12 sectors, of generation 3, with this in region 0.
func diskOf(region string) string {
	return headOf(3, 0) + fill("", 32) + fill(region, 160) + fill("", 160)
}

var plain = api.Config{Secret: "s", Seed: 0, Idle: 10, Absolute: 30}

// drawn are the numbers that are drawn from Seed 0 on.
func drawn(i int) int {
	x := 0
	for range i + 1 {
		x = (75*x + 74) % 65537
	}
	return x % 4096
}

func passOf(id int) string {
	pass, _ := Pass("s", id)
	return pass
}

func opened(t *testing.T, disk string, c api.Config) *Keeper {
	t.Helper()
	k, e := Open(disk, c)
	if k == nil || e != api.OK {
		t.Fatalf("P5: Open = %v, %d", k, e)
	}
	return k
}

// fresh has a new disk of so many sectors.
func fresh(t *testing.T, sectors int) *Keeper {
	t.Helper()
	disk, _ := Format(sectors)
	return opened(t, disk, plain)
}

func is(t *testing.T, what string, got, want api.Errno) {
	t.Helper()
	if got != want {
		t.Errorf("%s = %d, want %d", what, got, want)
	}
}

// gives takes what a call of two results answered, and the two that are wanted.
func gives[T comparable](t *testing.T, what string, want T, wantErr api.Errno) func(T, api.Errno) {
	return func(got T, e api.Errno) {
		t.Helper()
		if got != want || e != wantErr {
			t.Errorf("%s = %v, %d, want %v, %d", what, got, e, want, wantErr)
		}
	}
}

// disk is what is left behind a call: nothing is under way then, so it is the
// same whatever of that were kept.
func (k *Keeper) disk(t *testing.T) string {
	t.Helper()
	none := k.Left(0, -1, 0)
	if k.Left(-1, -1, 0) != none || k.Left(0, 0, 7) != none {
		t.Error("P6, P13: behind a call something is under way")
	}
	return none
}

func (k *Keeper) tick(t *testing.T, n int) {
	t.Helper()
	is(t, "P10: Tick", k.Tick(n), api.OK)
}

// login is one that must be, of user 1.
func (k *Keeper) login(t *testing.T) string {
	t.Helper()
	pass, e := k.Login(1)
	if e != api.OK {
		t.Fatalf("P7: Login(1) = %q, %d", pass, e)
	}
	return pass
}
