package table

import (
	"strconv"
	"testing"

	"spandrel/api"
)

// P14.1, R1: Refs that refer to one another without end, and those of which one
// denotes no entry. Lower finds both before any row is created, since such entries
// are not finite; the builder itself ends, too.
func TestRefer(t *testing.T) {
	for count := 1; count < 6; count++ {
		for target := range count + 1 {
			var l []api.Entry
			for k := range count {
				next := k + 1
				if next == count {
					next = target
				}
				l = append(l, api.Entry{Module: "M", Name: strconv.Itoa(k), T: api.Type{Kind: api.Ref, Name: "M." + strconv.Itoa(next)}})
			}
			want := api.ErrDeep
			if target == count {
				want = api.ErrName
			}
			b := newBuilder(l)
			for k := range count {
				if _, e := b.refer("M." + strconv.Itoa(k)); e != want {
					t.Errorf("%d of %d Refs, the last one to %d: %d, not %d", k, count, target, e, want)
				}
			}
			if len(b.rows) != 0 {
				t.Error(b.rows)
			}
		}
	}
}
