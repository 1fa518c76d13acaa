package doorkeeper

import (
	"math/rand"
	"sort"
	"strconv"
	"strings"
	"testing"

	"doorkeeper/api"
)

// model does what the document says in the plainest way, with lists instead of
// maps and with the regions as texts: it and a keeper are asked the same.
type model struct {
	c          api.Config
	passes     map[string]int // each that there can be
	live       []modelSession
	heads      [2]string
	regions    [2]string // without the noughts at the end
	room       int       // bytes of a region
	generation int
	head, used int // the sector of the head, and the region in use
	number     int
	x, time    int
}

type modelSession struct {
	id, user, created, used int
	values                  [][2]string
}

func (m *model) at(id int) int {
	for i, s := range m.live {
		if s.id == id {
			return i
		}
	}
	return -1
}

func (m *model) write(payload string) api.Errno {
	r := record(m.generation, m.number, payload)
	if len(m.regions[m.used])+len(r) > m.room {
		return api.ErrFull
	}
	m.regions[m.used] += r
	m.number++
	return api.OK
}

func (m *model) compact() api.Errno {
	r := record(m.generation+1, 0, m.snapshot())
	if m.generation == 1000000000 || len(r) > m.room {
		return api.ErrFull
	}
	m.generation, m.head, m.used, m.number = m.generation+1, 1-m.head, 1-m.used, 1
	m.regions[m.used] = r
	m.heads[m.head] = headOf(m.generation, m.used)
	return api.OK
}

func (m *model) draw() (int, bool) {
	for range 8 {
		m.x = (75*m.x + 74) % 65537
		if m.at(m.x%4096) < 0 {
			return m.x % 4096, true
		}
	}
	return 0, false
}

func (m *model) login(user int) (string, api.Errno) {
	if user < 1 || user > 99 {
		return "", api.ErrArg
	}
	if len(m.live) == 12 {
		return "", api.ErrLimit
	}
	id, ok := m.draw()
	if !ok {
		return "", api.ErrLimit
	}
	if e := m.write("L" + n(2, id) + n(1, user) + n(4, m.time)); e != api.OK {
		return "", e
	}
	m.live = append(m.live, modelSession{id, user, m.time, m.time, nil})
	return passOf(id), api.OK
}

func (m *model) end(i int) api.Errno {
	e := m.write("X" + n(2, m.live[i].id))
	if e == api.OK {
		m.live = append(m.live[:i:i], m.live[i+1:]...)
	}
	return e
}

func (m *model) look(pass string, ends bool) (int, api.Errno) {
	id, ok := m.passes[pass]
	if !ok {
		return 0, api.ErrPass
	}
	i := m.at(id)
	if i < 0 {
		return 0, api.ErrNone
	}
	if m.time-m.live[i].used < m.c.Idle && m.time-m.live[i].created < m.c.Absolute {
		return i, api.OK
	}
	if ends {
		if e := m.end(i); e != api.OK {
			return 0, e
		}
	}
	return 0, api.ErrExpired
}

func (m *model) touch(pass string) api.Errno {
	i, e := m.look(pass, true)
	if e != api.OK {
		return e
	}
	if e := m.write("T" + n(2, m.live[i].id) + n(4, m.time)); e != api.OK {
		return e
	}
	m.live[i].used = m.time
	return api.OK
}

func (m *model) rotate(pass string) (string, api.Errno) {
	i, e := m.look(pass, true)
	if e != api.OK {
		return "", e
	}
	id, ok := m.draw()
	if !ok {
		return "", api.ErrLimit
	}
	if e := m.write("R" + n(2, m.live[i].id) + n(2, id) + n(4, m.time)); e != api.OK {
		return "", e
	}
	m.live[i].id, m.live[i].used = id, m.time
	return passOf(id), api.OK
}

func (m *model) set(pass, name, text string) api.Errno {
	if len(name) < 1 || len(name) > 8 || len(text) > 8 {
		return api.ErrArg
	}
	i, e := m.look(pass, true)
	if e != api.OK {
		return e
	}
	s := &m.live[i]
	at := len(s.values)
	for j, v := range s.values {
		if v[0] == name {
			at = j
		}
	}
	if at == 3 {
		return api.ErrLimit
	}
	if e := m.write("S" + n(2, s.id) + n(1, len(name)) + name + n(1, len(text)) + text + n(4, m.time)); e != api.OK {
		return e
	}
	s.values = append(s.values[:at:at], append([][2]string{{name, text}}, s.values[min(at+1, len(s.values)):]...)...)
	s.used = m.time
	return api.OK
}

func (m *model) get(pass, name string) (string, api.Errno) {
	i, e := m.look(pass, false)
	if e != api.OK {
		return "", e
	}
	for _, v := range m.live[i].values {
		if v[0] == name {
			return v[1], api.OK
		}
	}
	return "", api.ErrNone
}

func (m *model) logout(pass string) api.Errno {
	i, e := m.look(pass, true)
	if e != api.OK {
		return e
	}
	return m.end(i)
}

func (m *model) logoutAll(user int) (int, api.Errno) {
	if user < 1 || user > 99 {
		return 0, api.ErrArg
	}
	var others []modelSession
	for _, s := range m.live {
		if s.user != user {
			others = append(others, s)
		}
	}
	count := len(m.live) - len(others)
	if count == 0 {
		return 0, api.OK
	}
	if e := m.write("U" + n(1, user)); e != api.OK {
		return 0, e
	}
	m.live = others
	return count, api.OK
}

func (m *model) tick(by int) api.Errno {
	if by < 0 || m.time+by > 1000000000 {
		return api.ErrArg
	}
	m.time += by
	return api.OK
}

func (m *model) disk(sectors int) string {
	heads := m.heads[0] + m.heads[1]
	return fill(heads+fill(m.regions[0], m.room)+fill(m.regions[1], m.room), 32*sectors)
}

// snapshot is the one of all sessions.
func (m *model) snapshot() string {
	sort.Slice(m.live, func(i, j int) bool { return m.live[i].id < m.live[j].id })
	text := n(1, len(m.live))
	for _, s := range m.live {
		values := s.values
		sort.Slice(values, func(i, j int) bool { return values[i][0] < values[j][0] })
		text += n(2, s.id) + n(1, s.user) + n(4, s.created) + n(4, s.used) + n(1, len(values))
		for _, v := range values {
			text += n(1, len(v[0])) + v[0] + n(1, len(v[1])) + v[1]
		}
	}
	return text
}

// both are a keeper and a model that are asked the same.
type both struct {
	*testing.T
	k       *Keeper
	m       *model
	r       *rand.Rand
	sectors int
	passes  []string
}

func (b *both) reopen() {
	b.m.c.Seed, b.m.c.Now = b.r.Intn(65537), b.m.time
	b.m.x = b.m.c.Seed
	b.k = opened(b.T, b.m.disk(b.sectors), b.m.c)
}

// begin has no sessions. The head and its region are anywhere, and the others
// are whatever they are.
func (b *both) begin() {
	m, r := b.m, b.r
	m.generation, m.number, m.head, m.used = 2+r.Intn(7), 1, r.Intn(2), r.Intn(2)
	if r.Intn(4) == 0 {
		m.generation = 1000000000 - r.Intn(7)
	}
	others := []string{fill("", 32), headOf(m.generation-1, r.Intn(2)), fill("DK", 32), "a sector that is not any head ..."[:32]}
	m.heads[m.head], m.heads[1-m.head] = headOf(m.generation, m.used), others[r.Intn(len(others))]
	m.regions[m.used], m.regions[1-m.used] = record(m.generation, 0, "\x00"), strings.Repeat("other...", r.Intn(m.room/8+1))
	b.reopen()
}

func (b *both) pass() string {
	if len(b.passes) == 0 || b.r.Intn(20) == 0 {
		return passOf(b.r.Intn(4096))[:b.r.Intn(2)+8]
	}
	return b.passes[max(0, len(b.passes)-1-b.r.Intn(14))]
}

func (b *both) text() string {
	texts := []string{"a", "b", "c", "", "d", "eight-by", "\x00", "nine-byte"}
	return texts[b.r.Intn(len(texts))]
}

func (b *both) got(pass string, e api.Errno) (string, api.Errno) {
	if e == api.OK {
		b.passes = append(b.passes, pass)
	}
	return pass, e
}

// ask asks for something, and tells what, and what both answered.
func (b *both) ask() (what, got, want string) {
	pass, name, text, user := b.pass(), b.text(), b.text(), b.r.Intn(6)
	if b.r.Intn(30) == 0 {
		return "Compact", told("", b.k.Compact()), told("", b.m.compact())
	}
	switch b.r.Intn(10) {
	case 0, 1:
		return "Login", told(b.got(b.k.Login(user))), told(b.m.login(user))
	case 2:
		return "Rotate", told(b.got(b.k.Rotate(pass))), told(b.m.rotate(pass))
	case 3:
		return "Touch", told("", b.k.Touch(pass)), told("", b.m.touch(pass))
	case 4, 5:
		return "Set", told("", b.k.Set(pass, name, text)), told("", b.m.set(pass, name, text))
	case 6:
		return "Get", told(b.k.Get(pass, name)), told(b.m.get(pass, name))
	case 7:
		return "Logout", told("", b.k.Logout(pass)), told("", b.m.logout(pass))
	case 8:
		if b.r.Intn(4) > 0 {
			break
		}
		return "LogoutAll", toldCount(b.k.LogoutAll(user)), toldCount(b.m.logoutAll(user))
	}
	by := b.r.Intn(5) - 1
	return "Tick", told("", b.k.Tick(by)), told("", b.m.tick(by))
}

func told(text string, e api.Errno) string { return strconv.Quote(text) + ", " + strconv.Itoa(int(e)) }

func toldCount(count int, e api.Errno) string { return told(strconv.Itoa(count), e) }

func TestKeeperAndModel(t *testing.T) {
	passes := map[string]int{}
	for id := range 4096 {
		passes[passOf(id)] = id
	}
	for seed := range 150 {
		r := rand.New(rand.NewSource(int64(seed)))
		m := &model{c: plain, passes: passes}
		b := &both{T: t, m: m, r: r, sectors: 12 + r.Intn(189)}
		m.c.Idle, m.c.Absolute = 1+r.Intn(40), 1+r.Intn(200)
		m.room = (b.sectors - 2) / 2 * 32
		b.begin()
		for i := range 400 {
			what, got, want := b.ask()
			if got != want {
				t.Fatalf("P5 to P11: seed %d, call %d: %s = %s, want %s", seed, i, what, got, want)
			}
			gives(t, "P10: Live", len(m.live), api.OK)(b.k.Live())
			if b.k.disk(b.T) != m.disk(b.sectors) {
				t.Fatalf("P6, P11, P13: seed %d, call %d: behind %s the disk is another", seed, i, what)
			}
			if r.Intn(40) == 0 {
				b.reopen()
			}
		}
	}
}
