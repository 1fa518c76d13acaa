package doorkeeper

import (
	"sort"
	"strings"

	"doorkeeper/api"
)

// model does what the document says in the plainest way, with lists instead of
// maps and with the disk as a list of sectors: it and a keeper are asked the
// same.
type model struct {
	c          api.Config
	passes     map[string]int // each that there can be
	live       []modelSession
	sectors    []string
	underWay   []modelWrite
	armed      int
	down       bool
	generation int
	head, used int // the sector of the head, and the region in use
	number     int
	next       int // the byte at which the next record begins
	x, time    int
	last       struct { // what was under way when the power went
		begin int
		text  string // if it stands on the disk, the change is made
		made  func()
	}
}

type modelWrite struct {
	sector int
	text   string
}

type modelSession struct {
	id, user, created, used int
	values                  [][2]string
}

func (m *model) at(id int) int {
	for i, s := range m.live {
		if s.id == id {
			return i
		}
	}
	return -1
}

func (m *model) half() int { return (len(m.sectors) - 2) / 2 * 32 }

func (m *model) end() int { return 64 + (m.used+1)*m.half() }

func (m *model) disk() string { return strings.Join(m.sectors, "") }

// step counts a disk step, and tells whether there is power behind it.
func (m *model) step() bool {
	m.armed--
	m.down = m.down || m.armed == 0
	return !m.down
}

// put is to write a text to the disk and to flush. It tells whether there is
// power behind it.
func (m *model) put(begin int, text string) bool {
	disk := m.disk()
	disk = disk[:begin] + text + disk[begin+len(text):]
	for i := range m.sectors {
		if i < begin/32 || i > (begin+len(text)-1)/32 {
			continue
		}
		m.underWay = append(m.underWay, modelWrite{i, disk[32*i : 32*i+32]})
		if !m.step() {
			return false
		}
	}
	if !m.step() {
		return false
	}
	m.sectors = m.left(-1, -1, 0)
	m.underWay = nil
	return true
}

func (m *model) left(keep, torn, part int) []string {
	left := append([]string(nil), m.sectors...)
	for i, w := range m.underWay {
		bit := i
		if bit > 62 {
			bit = 62
		}
		switch {
		case i == torn && part >= 32, i != torn && keep&(1<<bit) != 0:
			left[w.sector] = w.text
		case i == torn && part > 0:
			left[w.sector] = w.text[:part] + left[w.sector][part:]
		}
	}
	return left
}

// write makes a change, with its record on the disk.
func (m *model) write(payload string, change func()) api.Errno {
	r := record(m.generation, m.number, payload)
	if m.next+len(r) > m.end() || m.number > 65535 {
		return api.ErrFull
	}
	m.last.begin, m.last.text = m.next, r
	m.last.made = func() {
		change()
		m.next += len(r)
		m.number++
	}
	if !m.put(m.next, r) {
		return api.ErrDown
	}
	m.last.made()
	return api.OK
}

func (m *model) compact() api.Errno {
	if m.down {
		return api.ErrDown
	}
	r := record(m.generation+1, 0, m.snapshot())
	if m.generation == 1000000000 || len(r) > m.half() {
		return api.ErrFull
	}
	other := 64 + (1-m.used)*m.half()
	head := headOf(m.generation+1, 1-m.used)
	m.last.begin, m.last.text = 32*(1-m.head), head
	m.last.made = func() {
		m.generation, m.head, m.used, m.number, m.next = m.generation+1, 1-m.head, 1-m.used, 1, other+len(r)
	}
	if !m.put(other, fill(r, m.half())) || !m.put(32*(1-m.head), head) {
		return api.ErrDown
	}
	m.last.made()
	return api.OK
}

// powerAgain is the model that has power again with these sectors, and what was
// under way if that stands on them.
func (m *model) powerAgain(sectors []string) {
	m.sectors, m.underWay = sectors, nil
	if disk := m.disk(); m.down && disk[m.last.begin:m.last.begin+len(m.last.text)] == m.last.text {
		m.last.made()
	}
	m.down = false
	disk := m.disk()
	disk = disk[:m.next] + fill("", m.end()-m.next) + disk[m.end():]
	for i := range m.sectors {
		m.sectors[i] = disk[32*i : 32*i+32]
	}
}

func (m *model) draw() (int, bool) {
	for range 8 {
		m.x = (75*m.x + 74) % 65537
		if m.at(m.x%4096) < 0 {
			return m.x % 4096, true
		}
	}
	return 0, false
}

func (m *model) login(user int) (string, api.Errno) {
	if m.down {
		return "", api.ErrDown
	}
	if user < 1 || user > 99 {
		return "", api.ErrArg
	}
	if len(m.live) == 12 {
		return "", api.ErrLimit
	}
	id, ok := m.draw()
	if !ok {
		return "", api.ErrLimit
	}
	e := m.write("L"+n(2, id)+n(1, user)+n(4, m.time), func() {
		m.live = append(m.live, modelSession{id, user, m.time, m.time, nil})
	})
	return passIf(id, e)
}

func passIf(id int, e api.Errno) (string, api.Errno) {
	if e != api.OK {
		return "", e
	}
	return passOf(id), api.OK
}

func (m *model) ended(i int) api.Errno {
	return m.write("X"+n(2, m.live[i].id), func() {
		m.live = append(m.live[:i:i], m.live[i+1:]...)
	})
}

func (m *model) look(pass string, ends bool) (int, api.Errno) {
	if m.down {
		return 0, api.ErrDown
	}
	id, ok := m.passes[pass]
	if !ok {
		return 0, api.ErrPass
	}
	i := m.at(id)
	if i < 0 {
		return 0, api.ErrNone
	}
	if m.time-m.live[i].used < m.c.Idle && m.time-m.live[i].created < m.c.Absolute {
		return i, api.OK
	}
	if ends {
		if e := m.ended(i); e != api.OK {
			return 0, e
		}
	}
	return 0, api.ErrExpired
}

func (m *model) touch(pass string) api.Errno {
	i, e := m.look(pass, true)
	if e != api.OK {
		return e
	}
	return m.write("T"+n(2, m.live[i].id)+n(4, m.time), func() { m.live[i].used = m.time })
}

func (m *model) rotate(pass string) (string, api.Errno) {
	i, e := m.look(pass, true)
	if e != api.OK {
		return "", e
	}
	id, ok := m.draw()
	if !ok {
		return "", api.ErrLimit
	}
	e = m.write("R"+n(2, m.live[i].id)+n(2, id)+n(4, m.time), func() {
		m.live[i].id, m.live[i].used = id, m.time
	})
	return passIf(id, e)
}

func (m *model) set(pass, name, text string) api.Errno {
	if len(name) < 1 || len(name) > 8 || len(text) > 8 {
		return api.ErrArg
	}
	i, e := m.look(pass, true)
	if e != api.OK {
		return e
	}
	s := &m.live[i]
	at := len(s.values)
	for j, v := range s.values {
		if v[0] == name {
			at = j
		}
	}
	if at == 3 {
		return api.ErrLimit
	}
	return m.write("S"+n(2, s.id)+n(1, len(name))+name+n(1, len(text))+text+n(4, m.time), func() {
		s.values = append(s.values[:at:at], append([][2]string{{name, text}}, s.values[min(at+1, len(s.values)):]...)...)
		s.used = m.time
	})
}

func (m *model) get(pass, name string) (string, api.Errno) {
	i, e := m.look(pass, false)
	if e != api.OK {
		return "", e
	}
	for _, v := range m.live[i].values {
		if v[0] == name {
			return v[1], api.OK
		}
	}
	return "", api.ErrNone
}

func (m *model) logout(pass string) api.Errno {
	i, e := m.look(pass, true)
	if e != api.OK {
		return e
	}
	return m.ended(i)
}

func (m *model) logoutAll(user int) (int, api.Errno) {
	if m.down {
		return 0, api.ErrDown
	}
	if user < 1 || user > 99 {
		return 0, api.ErrArg
	}
	var others []modelSession
	for _, s := range m.live {
		if s.user != user {
			others = append(others, s)
		}
	}
	count := len(m.live) - len(others)
	if count == 0 {
		return 0, api.OK
	}
	if e := m.write("U"+n(1, user), func() { m.live = others }); e != api.OK {
		return 0, e
	}
	return count, api.OK
}

func (m *model) count() (int, api.Errno) {
	if m.down {
		return 0, api.ErrDown
	}
	return len(m.live), api.OK
}

func (m *model) arm(n int) {
	if !m.down {
		m.armed = max(n, 0)
	}
}

func (m *model) tick(by int) api.Errno {
	if m.down {
		return api.ErrDown
	}
	if by < 0 || m.time+by > 1000000000 {
		return api.ErrArg
	}
	m.time += by
	return api.OK
}

// snapshot is the one of all sessions.
func (m *model) snapshot() string {
	sort.Slice(m.live, func(i, j int) bool { return m.live[i].id < m.live[j].id })
	text := n(1, len(m.live))
	for _, s := range m.live {
		values := s.values
		sort.Slice(values, func(i, j int) bool { return values[i][0] < values[j][0] })
		text += n(2, s.id) + n(1, s.user) + n(4, s.created) + n(4, s.used) + n(1, len(values))
		for _, v := range values {
			text += n(1, len(v[0])) + v[0] + n(1, len(v[1])) + v[1]
		}
	}
	return text
}
