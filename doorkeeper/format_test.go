package doorkeeper

import (
	"math"
	"strings"
	"testing"

	"doorkeeper/api"
)

// What stands in front on each new disk, byte by byte: the sums were worked
// out by another program, from the document.
var (
	newHead   = "DK\x01\x00\x00\x00\x00\x86\x9c" + strings.Repeat("\x00", 23)
	noHead    = strings.Repeat("\x00", 32)
	newRecord = "\x01\x00\x01\x00\x00\x00\x00\x00\x00\xc0\x4f"
)

func TestFormatOfEachSize(t *testing.T) {
	front := newHead + noHead + newRecord
	for sectors := 12; sectors <= 200; sectors++ {
		want := front + strings.Repeat("\x00", 32*sectors-len(front))
		if got, e := Format(sectors); got != want || e != api.OK {
			t.Fatalf("P4: Format(%d) has %d bytes, %d, begins % x", sectors, len(got), e, got[:min(len(got), 80)])
		}
	}
}

func TestFormatRefusesOtherSizes(t *testing.T) {
	for _, sectors := range []int{
		11, 201, 1, 0, -1, -12, 256 + 12, 65536 + 12, 1<<32 + 12, 1 << 59, math.MaxInt, math.MinInt, math.MinInt + 12,
	} {
		if got, e := Format(sectors); got != "" || e != api.ErrArg {
			t.Errorf("P1, P4: Format(%d) has %d bytes, %d", sectors, len(got), e)
		}
	}
}
