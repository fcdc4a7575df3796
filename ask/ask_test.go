package ask

import (
	"math"
	"math/big"
	"slices"
	"testing"

	"precentor/api"
)

// ticks and waits are those at which the tests look: the edges, and some between.
var (
	ticks = []int{0, 1, 2, 5, 1000, 1 << 40, api.Far - 1, api.Far}
	waits = []int{1, 2, 3, 999, api.MaxTicks}
)

// above: is a sum above a number, as whole numbers of any size?
func above(now, wait, n int) bool {
	sum := new(big.Int).Add(big.NewInt(int64(now)), big.NewInt(int64(wait)))
	return sum.Cmp(big.NewInt(int64(n))) > 0
}

// dues are what may be due around a tick: none, just there, beside it, a wait off it, far off it, and the ends of the ints.
func dues(now, wait int) []int {
	out := []int{0, 1, -1, -2, now, now - 1, now + 1, now - wait, now - 1000000, now + 1000000, now + 2*wait}
	for d := -2; d <= 2; d++ {
		out = append(out, now+wait+d)
	}
	return append(out, math.MinInt, math.MinInt+1, math.MaxInt, math.MaxInt-1, -api.Far, api.Far+1)
}

// everywhere calls a test at each tick, wait and Due of those.
func everywhere(f func(due, now, wait int)) {
	for _, now := range ticks {
		for _, wait := range waits {
			for _, due := range dues(now, wait) {
				f(due, now, wait)
			}
		}
	}
}

// checkStep: does Step answer this?
func checkStep(t *testing.T, due, now, wait int, gap bool, want int, asked bool) {
	t.Helper()
	a := api.Ask{Due: due}
	got, is := Step(a, now, wait, gap)
	if got != (api.Ask{Due: want}) || is != asked {
		t.Errorf("Step(%d, %d, %d, %v): %d %v, want %d %v", due, now, wait, gap, got.Due, is, want, asked)
	}
	if a.Due != due {
		t.Errorf("Step(%d, %d, %d, %v): its argument is %d", due, now, wait, gap, a.Due)
	}
}

// checkHush: does Hush answer this?
func checkHush(t *testing.T, due, now, wait, want int) {
	t.Helper()
	a := api.Ask{Due: due}
	if got := Hush(a, now, wait); got != (api.Ask{Due: want}) {
		t.Errorf("Hush(%d, %d, %d): %d, want %d", due, now, wait, got.Due, want)
	}
	if a.Due != due {
		t.Errorf("Hush(%d, %d, %d): its argument is %d", due, now, wait, a.Due)
	}
}

// P10.1: without a gap none is watched, and none is asked for, whatever was due.
func TestStepWithoutGap(t *testing.T) {
	everywhere(func(due, now, wait int) {
		checkStep(t, due, now, wait, false, 0, false)
	})
}

// P10.1: a gap that isn't watched yet is due one tick on, whatever the wait is, and isn't asked for.
func TestStepNewGap(t *testing.T) {
	for _, now := range ticks {
		for _, wait := range waits {
			checkStep(t, 0, now, wait, true, now+1, false)
		}
	}
}

// P10.1: the cases of a watched gap, each one written out.
func TestStepWatched(t *testing.T) {
	for _, x := range []struct {
		due, now, wait, want int
		asked                bool
	}{
		{7, 6, 1, 7, false}, {7, 6, 2, 7, false}, {7, 6, 1000, 7, false}, // one above now
		{6, 6, 1, 7, true}, {6, 6, 2, 8, true}, {6, 6, 1000, 1006, true}, // at now
		{5, 6, 1, 7, true}, {5, 6, 2, 8, true}, {5, 6, 1000, 1006, true}, // one below
		{1, 1 << 40, 2, 1<<40 + 2, true}, {1 << 40, 6, 2, 1 << 40, false}, // far below, far above
		{1, 0, 1, 1, false}, {2, 0, 1, 2, false}, {-1, 0, 1, 1, true}, {-1, 0, 1000, 1000, true}, // at tick 0
		{2, 1, 1, 2, false}, {1, 1, 1, 2, true}, {1, 1, 2, 3, true}, {1, 1, 1000, 1001, true}, {-1, 1, 2, 3, true}, // at tick 1
		{api.Far + 1, api.Far, 1, api.Far + 1, false}, {api.Far, api.Far, 1, api.Far + 1, true}, // at Far
		{api.Far, api.Far, 1000, api.Far + 1000, true}, {api.Far - 1, api.Far, 2, api.Far + 2, true},
		{1, api.Far, 2, api.Far + 2, true}, {api.Far + 1000, api.Far, 1000, api.Far + 1000, false},
		{math.MinInt, 0, 1, 1, true}, {math.MinInt, api.Far, 1000, api.Far + 1000, true}, // the ends of the ints
		{math.MaxInt, 0, 1, math.MaxInt, false}, {math.MaxInt, api.Far, 1000, math.MaxInt, false},
	} {
		checkStep(t, x.due, x.now, x.wait, true, x.want, x.asked)
	}
}

// P10.1: a watched gap is asked for, and due a wait on, just where its Due isn't above now; elsewhere it is as it was.
func TestStepEverywhere(t *testing.T) {
	everywhere(func(due, now, wait int) {
		switch {
		case due == 0:
			checkStep(t, due, now, wait, true, now+1, false)
		case above(due, 0, now):
			checkStep(t, due, now, wait, true, due, false)
		default:
			checkStep(t, due, now, wait, true, now+wait, true)
		}
	})
}

// P10.2: where no gap is watched nothing is turned.
func TestHushUnwatched(t *testing.T) {
	for _, now := range ticks {
		for _, wait := range waits {
			checkHush(t, 0, now, wait, 0)
		}
	}
}

// P10.2: the cases of a watched gap, each one written out.
func TestHushWatched(t *testing.T) {
	for _, x := range [][4]int{
		{9, 5, 3, 9}, {8, 5, 3, 8}, {7, 5, 3, 8}, // now and wait is one below Due, at it, one above it
		{6, 5, 1, 6}, {5, 5, 1, 6}, {7, 5, 1, 7},
		{1006, 5, 1000, 1006}, {1005, 5, 1000, 1005}, {1004, 5, 1000, 1005},
		{1, 0, 1, 1}, {2, 0, 1, 2}, {-1, 0, 1, 1}, {1, 0, 2, 2}, {1, 1, 1000, 1001}, // at ticks 0 and 1
		{api.Far + 1001, api.Far, 1000, api.Far + 1001}, {api.Far + 1000, api.Far, 1000, api.Far + 1000}, // at Far
		{api.Far + 999, api.Far, 1000, api.Far + 1000}, {1, api.Far, 1, api.Far + 1}, {api.Far, api.Far, 1, api.Far + 1},
		{math.MinInt, 0, 1, 1}, {math.MinInt, api.Far, 1000, api.Far + 1000}, // the ends of the ints
		{math.MaxInt, 0, 1, math.MaxInt}, {math.MaxInt, api.Far, 1000, math.MaxInt},
	} {
		checkHush(t, x[0], x[1], x[2], x[3])
	}
}

// P10.2: what is due is set off to now and wait just where a gap is watched and that is above it; elsewhere it is as it was.
func TestHushEverywhere(t *testing.T) {
	everywhere(func(due, now, wait int) {
		want := due
		if due != 0 && above(now, wait, due) {
			want = now + wait
		}
		checkHush(t, due, now, wait, want)
	})
}

// walk steps from tick to tick, and hushes behind the step at those ticks that are told, with a gap where it is told; it tells at which ticks the gap was asked for.
func walk(from, to, wait int, gap func(now int) bool, hushed ...int) []int {
	var a api.Ask
	var asked []int
	for now := from; now <= to; now++ {
		next, is := Step(a, now, wait, gap(now))
		if is {
			asked = append(asked, now)
		}
		a = next
		if slices.Contains(hushed, now) {
			a = Hush(a, now, wait)
		}
	}
	return asked
}

// always: there is a gap at every tick.
func always(int) bool { return true }

// each are the ticks from one on, a wait apart.
func each(first, last, wait int) []int {
	var out []int
	for now := first; now <= last; now += wait {
		out = append(out, now)
	}
	return out
}

// P10.3: the example of the chapter.
func TestExample(t *testing.T) {
	if got := walk(5, 12, 3, always); !slices.Equal(got, []int{6, 9, 12}) {
		t.Error(got)
	}
}

// P10.3: a gap that stays is asked for one tick behind that in which it was seen, and then each wait of ticks.
func TestGapStays(t *testing.T) {
	for _, from := range []int{0, 1, 5, 1 << 40, api.Far - 5000} {
		for _, wait := range []int{1, 2, 3, 7, 999, 1000} {
			if got := walk(from, from+5000, wait, always); !slices.Equal(got, each(from+1, from+5000, wait)) {
				t.Error(from, wait, got)
			}
		}
	}
}

// P10.3: a gap that goes is forgotten; one that comes again is watched anew.
func TestGapComesAgain(t *testing.T) {
	for _, x := range []struct {
		from, to, wait int
		gone           []int
		want           []int
	}{
		{5, 20, 4, []int{8}, []int{6, 10, 14, 18}},      // seen anew at 9, when it was due at 10 anyway
		{5, 20, 4, []int{7}, []int{6, 9, 13, 17}},       // seen anew at 8
		{5, 20, 4, []int{6}, []int{8, 12, 16, 20}},      // gone when it was due
		{5, 20, 9, []int{7, 8}, []int{6, 10, 19}},       // seen anew at 9, ahead of 15
		{0, 6, 2, []int{0, 1, 3, 5}, nil},               // never there for two ticks on end
		{0, 8, 1000, []int{2, 5}, []int{1, 4, 7}},       // however long the wait is
		{0, 9, 1, []int{4}, []int{1, 2, 3, 6, 7, 8, 9}}, // at each tick but two
	} {
		there := func(now int) bool { return !slices.Contains(x.gone, now) }
		if got := walk(x.from, x.to, x.wait, there); !slices.Equal(got, x.want) {
			t.Error(x.from, x.wait, x.gone, got)
		}
	}
}

// P10.3: a gap that is hushed isn't asked for ahead of a wait of ticks behind that, and then it is, and each wait of ticks from there on.
func TestGapHushed(t *testing.T) {
	for _, wait := range []int{1, 2, 3, 5, 30} {
		for at := 5; at < 50; at++ {
			want := append(each(6, at, wait), each(at+wait, 200, wait)...)
			if got := walk(5, 200, wait, always, at); !slices.Equal(got, want) {
				t.Error(wait, at, got, want)
			}
		}
	}
}

// P10.3: each hush sets a gap off again; one that is hushed all the time isn't asked for till that ends.
func TestGapHushedAgain(t *testing.T) {
	if got := walk(0, 30, 4, always, 2, 5, 8, 16); !slices.Equal(got, []int{1, 12, 16, 20, 24, 28}) {
		t.Error(got)
	}
	for _, wait := range []int{2, 3, 1000} {
		want := each(300+wait, 2000, wait)
		if got := walk(0, 2000, wait, always, each(0, 300, 1)...); !slices.Equal(got, want) {
			t.Error(wait, got, want)
		}
	}
}

// P10.3: a hush where there is no gap sets nothing off: the next gap is asked for one tick behind that in which it was seen.
func TestHushAheadOfGap(t *testing.T) {
	later := func(now int) bool { return now >= 5 }
	if got := walk(0, 14, 4, later, 0, 2, 3, 4); !slices.Equal(got, []int{6, 10, 14}) {
		t.Error(got)
	}
}

// P10.1 and P10.2: what was due stays as it was handed in, whatever is called with it.
func TestSameAnswers(t *testing.T) {
	a := api.Ask{Due: 6}
	for range 3 {
		if got, is := Step(a, 6, 3, true); got.Due != 9 || !is {
			t.Error(got, is)
		}
		if got := Hush(a, 6, 4); got.Due != 10 {
			t.Error(got)
		}
	}
}
