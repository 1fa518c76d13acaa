package doorkeeper

import (
	"math"
	"math/rand"
	"slices"
	"strconv"
	"strings"
	"testing"

	"doorkeeper/api"
)

// both are a keeper and a model that are asked the same.
type both struct {
	*testing.T
	k      *Keeper
	m      *model
	r      *rand.Rand
	passes []string
}

// reopen opens what stands on the sectors that are left.
func (b *both) reopen(sectors []string) {
	b.m.powerAgain(sectors)
	b.m.c.Seed, b.m.c.Now = b.r.Intn(65537), b.m.time
	b.m.x, b.m.armed = b.m.c.Seed, 0
	b.k = opened(b.T, strings.Join(sectors, ""), b.m.c)
}

// begin has no sessions. The head and its region are anywhere, and the others
// are whatever they are.
func (b *both) begin(sectors int) {
	m, r := b.m, b.r
	m.generation, m.number, m.head, m.used = 2+r.Intn(7), 1, r.Intn(2), r.Intn(2)
	if r.Intn(4) == 0 {
		m.generation = 1000000000 - r.Intn(7)
	}
	others := []string{fill("", 32), headOf(m.generation-1, r.Intn(2)), fill("DK", 32), "a sector that is not any head ..."[:32]}
	half := (sectors - 2) / 2 * 32
	empty := record(m.generation, 0, "\x00")
	var heads, regions [2]string
	heads[m.head], heads[1-m.head] = headOf(m.generation, m.used), others[r.Intn(len(others))]
	regions[m.used], regions[1-m.used] = fill(empty, half), fill(strings.Repeat("other...", r.Intn(half/8+1)), half)
	disk := fill(heads[0]+heads[1]+regions[0]+regions[1], 32*sectors)
	m.next = 64 + m.used*half + len(empty)
	var all []string
	for i := range sectors {
		all = append(all, disk[32*i:32*i+32])
	}
	b.reopen(all)
}

func (b *both) pass() string {
	if len(b.passes) == 0 || b.r.Intn(20) == 0 {
		return passOf(b.r.Intn(4096))[:b.r.Intn(2)+8]
	}
	return b.passes[max(0, len(b.passes)-1-b.r.Intn(14))]
}

func (b *both) text() string {
	texts := []string{"a", "b", "c", "", "d", "eight-by", "\x00", "nine-byte"}
	return texts[b.r.Intn(len(texts))]
}

func (b *both) got(pass string, e api.Errno) (string, api.Errno) {
	if e == api.OK {
		b.passes = append(b.passes, pass)
	}
	return pass, e
}

// ask asks for something, and tells what, and what both answered.
func (b *both) ask() (what, got, want string) {
	pass, name, text, user := b.pass(), b.text(), b.text(), b.r.Intn(6)
	if b.r.Intn(30) == 0 {
		return "Compact", told("", b.k.Compact()), told("", b.m.compact())
	}
	switch b.r.Intn(10) {
	case 0, 1:
		return "Login", told(b.got(b.k.Login(user))), told(b.m.login(user))
	case 2:
		return "Rotate", told(b.got(b.k.Rotate(pass))), told(b.m.rotate(pass))
	case 3:
		return "Touch", told("", b.k.Touch(pass)), told("", b.m.touch(pass))
	case 4, 5:
		return "Set", told("", b.k.Set(pass, name, text)), told("", b.m.set(pass, name, text))
	case 6:
		return "Get", told(b.k.Get(pass, name)), told(b.m.get(pass, name))
	case 7:
		return "Logout", told("", b.k.Logout(pass)), told("", b.m.logout(pass))
	case 8:
		if b.r.Intn(4) > 0 {
			break
		}
		return "LogoutAll", toldCount(b.k.LogoutAll(user)), toldCount(b.m.logoutAll(user))
	}
	by := b.r.Intn(5) - 1
	return "Tick", told("", b.k.Tick(by)), told("", b.m.tick(by))
}

func told(text string, e api.Errno) string { return strconv.Quote(text) + ", " + strconv.Itoa(int(e)) }

func toldCount(count int, e api.Errno) string { return told(strconv.Itoa(count), e) }

func (b *both) arm() {
	n := b.r.Intn(30) - 3
	if b.r.Intn(8) == 0 {
		n = 2 * b.r.Intn(120)
	}
	b.k.Arm(n)
	b.m.arm(n)
}

// left looks at what both tell of the disk, and answers one that may be left.
func (b *both) left() []string {
	keeps := []int{0, -1, b.r.Int(), -b.r.Int(), b.r.Intn(8), 1 << b.r.Intn(63), -1 << b.r.Intn(63), math.MinInt, math.MaxInt}
	torns := []int{-1, 0, 1, b.r.Intn(9), b.r.Intn(200), math.MinInt, math.MaxInt}
	parts := []int{-1, 0, 8, 9, b.r.Intn(32), 31, 32, 33, math.MinInt, math.MaxInt}
	var left []string
	for range 2 {
		keep, torn, part := keeps[b.r.Intn(len(keeps))], torns[b.r.Intn(len(torns))], parts[b.r.Intn(len(parts))]
		left = b.m.left(keep, torn, part)
		if got := b.k.Left(keep, torn, part); got != strings.Join(left, "") {
			b.Fatalf("P13: Left(%d, %d, %d) =\n%q, want\n%q", keep, torn, part, got, strings.Join(left, ""))
		}
	}
	return left
}

func passNumbers() map[string]int {
	passes := map[string]int{}
	for id := range 4096 {
		passes[passOf(id)] = id
	}
	return passes
}

func begun(t *testing.T, seed int, passes map[string]int) *both {
	r := rand.New(rand.NewSource(int64(seed)))
	m := &model{c: plain, passes: passes}
	m.c.Idle, m.c.Absolute = 1+r.Intn(40), 1+r.Intn(200)
	b := &both{T: t, m: m, r: r}
	b.begin(12 + r.Intn(189))
	return b
}

func TestKeeperAndModel(t *testing.T) {
	passes := passNumbers()
	for seed := range 150 {
		b := begun(t, seed, passes)
		for i := range 400 {
			what, got, want := b.ask()
			if got != want {
				t.Fatalf("P5 to P11: seed %d, call %d: %s = %s, want %s", seed, i, what, got, want)
			}
			gives(t, "P10: Live", len(b.m.live), api.OK)(b.k.Live())
			if b.k.disk(b.T) != b.m.disk() {
				t.Fatalf("P6, P11, P13: seed %d, call %d: behind %s the disk is another", seed, i, what)
			}
			if b.r.Intn(40) == 0 {
				b.reopen(b.m.sectors)
			}
		}
	}
}

// The power goes again and again, and all goes on with what was left.
func TestKeeperAndModelWhenThePowerGoes(t *testing.T) {
	passes := passNumbers()
	losses := 0
	for seed := range 200 {
		b := begun(t, 1000+seed, passes)
		for i := range 400 {
			if b.r.Intn(9) == 0 {
				b.arm()
			}
			what, got, want := b.ask()
			if got != want {
				t.Fatalf("P5 to P12: seed %d, call %d: %s = %s, want %s", seed, i, what, got, want)
			}
			gotLive, e := b.k.Live()
			wantLive, wantErr := b.m.count()
			if gotLive != wantLive || e != wantErr {
				t.Fatalf("P14: seed %d, call %d: behind %s Live = %d, %d, want %d, %d", seed, i, what, gotLive, e, wantLive, wantErr)
			}
			left := b.left()
			if b.r.Intn(40) == 0 || b.m.down && b.r.Intn(4) == 0 {
				if b.m.down {
					losses++
				}
				b.reopen(left)
			}
		}
		if got := b.k.sessions.Snapshot(); !b.m.down && got != b.m.snapshot() {
			t.Errorf("P14: seed %d: the sessions are %q, want %q", seed, got, b.m.snapshot())
		}
	}
	if losses < 1000 {
		t.Errorf("the test's own power goes but %d times", losses)
	}
}

// Each bit of keep is of use to the model, too.
func TestTheModelsOwnLeft(t *testing.T) {
	m := &model{sectors: slices.Repeat([]string{fill("", 32)}, 70)}
	if !m.put(0, strings.Repeat("x", 64)) || m.disk() != fill(strings.Repeat("x", 64), 70*32) {
		t.Fatal("the test's own disk takes no writes")
	}
	m.armed = 70
	m.put(0, strings.Repeat("y", 70*32))
	for _, c := range []struct{ keep, count int }{{0, 0}, {1, 1}, {1 << 61, 1}, {1 << 62, 8}, {-1, 70}, {math.MinInt, 0}} {
		if got := strings.Count(strings.Join(m.left(c.keep, -1, 0), ""), "y"); got != 32*c.count {
			t.Errorf("the test's own Left(%d, -1, 0) has %d bytes", c.keep, got)
		}
	}
}
