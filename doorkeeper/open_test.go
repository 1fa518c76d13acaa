package doorkeeper

import (
	"math"
	"strings"
	"testing"

	"doorkeeper/api"
)

func TestOpenOfConfigurations(t *testing.T) {
	disk, _ := Format(12)
	with := func(change func(c *api.Config)) api.Config {
		c := plain
		change(&c)
		return c
	}
	secret := func(s string) api.Config { return with(func(c *api.Config) { c.Secret = s }) }
	seed := func(n int) api.Config { return with(func(c *api.Config) { c.Seed = n }) }
	idle := func(n int) api.Config { return with(func(c *api.Config) { c.Idle = n }) }
	absolute := func(n int) api.Config { return with(func(c *api.Config) { c.Absolute = n }) }
	now := func(n int) api.Config { return with(func(c *api.Config) { c.Now = n }) }
	for _, c := range []api.Config{
		secret("\x00"), secret("sixteen bytes !!"), seed(0), seed(65536), idle(1), idle(1000000000),
		absolute(1), absolute(1000000000), now(0), now(1000000000),
	} {
		if k, e := Open(disk, c); k == nil || e != api.OK {
			t.Errorf("P5: Open with %v = %v, %d", c, k, e)
		}
	}
	for _, c := range []api.Config{
		{}, secret(""), secret("seventeen bytes !"), secret(strings.Repeat("ß", 9)), secret(strings.Repeat("s", 1<<20)),
		seed(-1), seed(65537), seed(math.MaxInt), seed(math.MinInt),
		idle(0), idle(-1), idle(1000000001), idle(math.MaxInt), idle(math.MinInt),
		absolute(0), absolute(-1), absolute(1000000001), absolute(math.MaxInt), absolute(math.MinInt),
		now(-1), now(1000000001), now(math.MaxInt), now(math.MinInt),
	} {
		for _, disk := range []string{disk, "", "no disk"} {
			if k, e := Open(disk, c); k != nil || e != api.ErrConfig {
				t.Errorf("P5: Open with %.40v = %v, %d", c, k, e)
			}
		}
	}
}

func TestOpenRefusesWhatIsNoDisk(t *testing.T) {
	good := diskOf(record(3, 0, "\x00"))
	for _, c := range []struct{ what, disk string }{
		{"nothing", ""}, {"a byte", "x"}, {"a byte more", good + "\x00"}, {"a byte less", good[:383]},
		{"11 sectors", good[:11*32]}, {"201 sectors", fill(good, 201*32)}, {"many bytes", strings.Repeat("DK", 1<<22)},
		{"noughts", fill("", 12*32)}, {"no head", fill("", 64) + good[64:]},
		{"a head in sector 2", fill("", 64) + headOf(3, 0) + good[96:]},
		{"generation 0", headOf(0, 0) + fill("", 32) + fill(record(0, 0, "\x00"), 320)},
		{"region 2", headOf(3, 2) + good[32:]}, {"the other region", headOf(3, 1) + good[32:]},
		{"a byte behind the head", good[:31] + "\x01" + good[32:]},
		{"a greater head of an empty region", headOf(3, 0) + headOf(4, 1) + good[64:]},
		{"no record", diskOf("")}, {"a snapshot of no bytes", diskOf(record(3, 0, ""))},
		{"a snapshot of number 1", diskOf(record(3, 1, "\x00"))}, {"a snapshot of generation 2", diskOf(record(2, 0, "\x00"))},
		{"a wrong sum", diskOf(record(3, 0, "\x00")[:10] + "x")},
		{"a length beyond the region", diskOf("\xff\xff" + record(3, 0, "\x00")[2:])},
		{"a user 100", diskOf(record(3, 0, "\x01"+session(5, 100, 0, 0)))},
	} {
		if k, e := Open(c.disk, plain); k != nil || e != api.ErrDisk {
			t.Errorf("P5: Open of %s = %v, %d", c.what, k, e)
		}
	}
}

func TestOpenOfEachSize(t *testing.T) {
	for sectors := 12; sectors <= 200; sectors++ {
		half := (sectors - 2) / 2 * 32
		snapshot := fill(record(7, 0, "\x01"+session(5, 1, 0, 0)), half)
		disk := fill(fill("", 32)+headOf(7, 1)+fill("", half)+snapshot, 32*sectors)
		k := opened(t, disk, plain)
		is(t, "P5: Touch of a session in region 1", k.Touch(passOf(5)), api.OK)
		want := disk[:64+half] + fill(record(7, 0, "\x01"+session(5, 1, 0, 0))+record(7, 1, "T"+n(2, 5)+n(4, 0)), half)
		if got := k.disk(t); got != fill(want, 32*sectors) {
			t.Errorf("P5, P6: of %d sectors the disk is another behind Touch", sectors)
		}
	}
}

func TestOpenOfChanges(t *testing.T) {
	snapshot := record(3, 0, "\x02"+session(5, 1, 3, 4)+session(9, 2, 0, 8))
	k := opened(t, diskOf(snapshot+
		record(3, 1, "L"+n(2, 7)+"\x02"+n(4, 20))+
		record(3, 2, "S"+n(2, 7)+"\x01a\x02xy"+n(4, 21))+
		record(3, 3, "R"+n(2, 7)+n(2, 8)+n(4, 25))+
		record(3, 4, "X"+n(2, 5))), api.Config{Secret: "s", Seed: 65536, Idle: 10, Absolute: 30, Now: 34})
	gives(t, "P5: Live", 2, api.OK)(k.Live())
	gives(t, "P5: Get at 34", "xy", api.OK)(k.Get(passOf(8), "a"))
	gives(t, "P5: Get of the old number", "", api.ErrNone)(k.Get(passOf(7), "a"))
	gives(t, "P5: Get of what was ended", "", api.ErrNone)(k.Get(passOf(5), "a"))
	gives(t, "P5: Get of what is over", "", api.ErrExpired)(k.Get(passOf(9), "a"))
	k.tick(t, 1)
	gives(t, "P5: Get at 35", "", api.ErrExpired)(k.Get(passOf(8), "a"))
	gives(t, "P5: LogoutAll of the user", 2, api.OK)(k.LogoutAll(2))
	gives(t, "P5: Login from Seed 65536", passOf(0), api.OK)(k.Login(1))
}

// What is unfit ends the changes, and noughts stand in its place at once: what
// is fit behind it is gone, though its number is the next one.
func TestOpenMakesNoughts(t *testing.T) {
	snapshot := record(3, 0, "\x01"+session(5, 1, 3, 4))
	login := "L" + n(2, 7) + "\x02" + n(4, 0)
	for _, c := range []struct {
		what  string
		unfit string
	}{
		{"a login of a live one", record(3, 1, "L"+n(2, 5)+"\x02"+n(4, 0))},
		{"used, of none", record(3, 1, "T"+n(2, 6)+n(4, 0))},
		{"used too late", record(3, 1, "T"+n(2, 5)+n(4, 1000000001))},
		{"renumbered to itself", record(3, 1, "R"+n(2, 5)+n(2, 5)+n(4, 0))},
		{"set without a name", record(3, 1, "S"+n(2, 5)+"\x00\x00"+n(4, 0))},
		{"ended, of none", record(3, 1, "X"+n(2, 6))},
		{"all of a user who has none", record(3, 1, "U\x03")},
		{"another kind", record(3, 1, "Y"+n(2, 5))},
		{"a number left out", record(3, 2, "X"+n(2, 5))},
		{"another generation", record(4, 1, "X"+n(2, 5))},
		{"bytes", strings.Repeat("\xff", 20)},
	} {
		k := opened(t, diskOf(snapshot+c.unfit+record(3, 2, login)), plain)
		gives(t, "P5: Live behind "+c.what, 1, api.OK)(k.Live())
		if got := k.disk(t); got != diskOf(snapshot) {
			t.Errorf("P5: %s: the disk is %q", c.what, got)
		}
		is(t, "P5: Touch behind "+c.what, k.Touch(passOf(5)), api.OK)
		if got := k.disk(t); got != diskOf(snapshot+record(3, 1, "T"+n(2, 5)+n(4, 0))) {
			t.Errorf("P6: %s: behind Touch the disk is %q", c.what, got)
		}
	}
}

func TestOpenLeavesTheRestOfTheDisk(t *testing.T) {
	other := strings.Repeat("other...", 20)
	disk := fill("", 32) + headOf(3, 0) + fill(record(3, 0, "\x00")+"bytes", 160) + other + strings.Repeat("rest", 8)
	k := opened(t, disk, plain)
	if want := strings.Replace(disk, "bytes", fill("", 5), 1); k.disk(t) != want {
		t.Errorf("P5: the disk is %q, want %q", k.disk(t), want)
	}
}
