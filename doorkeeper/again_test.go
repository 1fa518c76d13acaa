package doorkeeper

import (
	"sync"
	"testing"

	"doorkeeper/api"
)

type answer struct {
	text string
	e    api.Errno
}

// answers makes a round of calls, good ones and wrong ones.
func answers() []answer {
	var all []answer
	add := func(text string, e api.Errno) { all = append(all, answer{text, e}) }
	add(Pass("s", 0))
	add(Format(12))
	add(Pass("other", 4096))
	add(Pass("other", 4095))
	add(Format(201))
	add(Format(200))
	errs, disk := askedOfAKeeper()
	for _, e := range errs {
		add("", e)
	}
	add(disk, api.OK)
	add(Pass("s", 0))
	return all
}

// askedOfAKeeper opens a new disk and makes a round of calls on it. It answers
// what is left of the disk, too.
func askedOfAKeeper() ([]api.Errno, string) {
	disk, _ := Format(12)
	k, e := Open(disk, plain)
	all := []api.Errno{e, k.Tick(3), k.Tick(-1), k.Logout("")}
	for user := range 12 {
		pass, e := k.Login(user)
		all = append(all, e, k.Set(pass, "a", "b"), k.Touch(passOf(74)))
	}
	all = append(all, k.Compact(), k.Tick(10), k.Touch(passOf(74)))
	k.Arm(3)
	all = append(all, k.Compact(), k.Touch(passOf(74)))
	return all, k.Left(5, 0, 7)
}

func TestAnswersHangOnArgumentsAlone(t *testing.T) {
	first := answers()
	if first[0] != first[len(first)-1] || first[0].e != api.OK {
		t.Errorf("P2: Pass(s, 0) = %v, and later %v", first[0], first[len(first)-1])
	}
	for round := range 3 {
		compare(t, round, answers(), first)
	}
}

func TestAnswersOfCallsAtOnce(t *testing.T) {
	first := answers()
	rounds := make([][]answer, 8)
	var group sync.WaitGroup
	for i := range rounds {
		group.Add(1)
		go func() {
			defer group.Done()
			rounds[i] = answers()
		}()
	}
	group.Wait()
	for i, round := range rounds {
		compare(t, i, round, first)
	}
}

func compare(t *testing.T, round int, got, want []answer) {
	t.Helper()
	for i := range want {
		if got[i] != want[i] {
			t.Errorf("P2: round %d, call %d: %.40q, %d, want %.40q, %d", round, i, got[i].text, got[i].e, want[i].text, want[i].e)
		}
	}
}
