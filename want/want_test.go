package want

import (
	"math"
	"testing"

	"precentor/api"
)

// most is the greatest number of hits that the chapter names.
const most = 1152921504606846976

// engines are both of them.
var engines = []int{api.Sequencer, api.Privilege}

// numbers are levels and thresholds: the least and the greatest, those about 0, and those beside powers of two at which narrower numbers, and whole floats, end.
var numbers = []int{
	math.MinInt, math.MinInt + 1, math.MinInt + 2, -most - 1, -most, -1<<53 - 2, -1<<53 - 1, -1 << 53, -1<<53 + 1, -1<<32 - 1, -1 << 32, -1<<31 - 1, -1 << 31, -1<<24 - 1, -1 << 24,
	-1000, -11, -10, -9, -3, -2, -1, 0, 1, 2, 3, 9, 10, 11, 1000,
	1 << 24, 1<<24 + 1, 1<<31 - 1, 1 << 31, 1<<32 - 1, 1 << 32, 1<<32 + 1, 1 << 40, 1<<53 - 1, 1 << 53, 1<<53 + 1, 1<<53 + 2, most, most + 1, math.MaxInt - 2, math.MaxInt - 1, math.MaxInt,
}

// bounds are thresholds.
type bounds struct{ high, low int }

// apart are thresholds one apart, and far apart, below 0, about it, and above it, and at the ends of all numbers.
var apart = []bounds{
	{10, 2}, {10, 9}, {1, 0}, {0, -1}, {2, 1}, {1, -1}, {-2, -10}, {-9, -10}, {5, -5}, {1000000, 1}, {0, -1000000}, {1 << 40, 0}, {1<<53 + 1, 1 << 53}, {1<<53 + 2, 1<<53 + 1}, {-1 << 53, -1<<53 - 1},
	{math.MaxInt, math.MinInt}, {math.MaxInt, math.MaxInt - 1}, {math.MinInt + 1, math.MinInt}, {math.MaxInt - 1, math.MinInt + 1}, {math.MaxInt, 0}, {0, math.MinInt}, {math.MaxInt - 2, math.MaxInt - 5}, {math.MinInt + 5, math.MinInt + 2},
}

// asks is what an engine asks for, in ints alone.
func asks(engine, level int, b bounds) bool {
	if engine == api.Sequencer {
		return level >= b.high
	}
	return level <= b.low
}

// checkAsks: does Asks answer this?
func checkAsks(t *testing.T, engine, level int, b bounds, want bool) {
	t.Helper()
	if got := Asks(engine, level, b.high, b.low); got != want {
		t.Errorf("Asks(%d, %d, %d, %d): %t", engine, level, b.high, b.low, got)
	}
}

// P14.1: the other engine of each of both, and that of the other one.
func TestOther(t *testing.T) {
	if got := Other(api.Sequencer); got != api.Privilege {
		t.Error("other than the sequencer:", got)
	}
	if got := Other(api.Privilege); got != api.Sequencer {
		t.Error("other than the privilege:", got)
	}
	for _, engine := range engines {
		if got := Other(Other(engine)); got != engine {
			t.Error("other than the other:", engine, got)
		}
	}
}

// P14.1: the cases of Asks, each one written out, for the sequencer, and for the privilege.
func TestAsksCases(t *testing.T) {
	for _, x := range []struct {
		level, high, low int
		seq, priv        bool
	}{
		{10, 10, 2, true, false}, {9, 10, 2, false, false}, {11, 10, 2, true, false}, {1000, 10, 2, true, false}, // at the high one, and beside it, and beyond
		{2, 10, 2, false, true}, {3, 10, 2, false, false}, {1, 10, 2, false, true}, {-1000, 10, 2, false, true}, // at the low one, and beside it, and beyond
		{5, 10, 2, false, false}, {6, 10, 2, false, false}, {0, 10, 2, false, true}, {12, 10, 2, true, false}, // between them, and beyond both
		{10, 10, 9, true, false}, {9, 10, 9, false, true}, {11, 10, 9, true, false}, {8, 10, 9, false, true}, // one apart: none is between
		{1, 1, 0, true, false}, {0, 1, 0, false, true}, {2, 1, 0, true, false}, {-1, 1, 0, false, true},
		{0, 0, -1, true, false}, {-1, 0, -1, false, true}, {1, 0, -1, true, false}, {-2, 0, -1, false, true},
		{1, 1, -1, true, false}, {0, 1, -1, false, false}, {-1, 1, -1, false, true}, // 0 is between
		{-2, -2, -10, true, false}, {-3, -2, -10, false, false}, {-1, -2, -10, true, false}, {-10, -2, -10, false, true}, {-9, -2, -10, false, false}, {-11, -2, -10, false, true}, // both below 0
		{0, -2, -10, true, false}, {5, -2, -10, true, false}, {-6, -2, -10, false, false},
		{1000000, 1000000, -1000000, true, false}, {999999, 1000000, -1000000, false, false}, {0, 1000000, -1000000, false, false}, {-999999, 1000000, -1000000, false, false}, {-1000000, 1000000, -1000000, false, true}, // far apart
		{9007199254740993, 9007199254740993, 9007199254740992, true, false}, {9007199254740992, 9007199254740993, 9007199254740992, false, true}, // which one float would hold as one
		{9007199254740992, 9007199254740993, 9007199254740991, false, false},
		{math.MaxInt, math.MaxInt, math.MinInt, true, false}, {math.MaxInt - 1, math.MaxInt, math.MinInt, false, false}, {0, math.MaxInt, math.MinInt, false, false}, // as far apart as may be
		{math.MinInt, math.MaxInt, math.MinInt, false, true}, {math.MinInt + 1, math.MaxInt, math.MinInt, false, false},
		{math.MaxInt, 10, 2, true, false}, {math.MinInt, 10, 2, false, true}, {math.MaxInt, -2, -10, true, false}, {math.MinInt, -2, -10, false, true}, // the levels that are beyond all
		{math.MaxInt, math.MaxInt, math.MaxInt - 1, true, false}, {math.MaxInt - 1, math.MaxInt, math.MaxInt - 1, false, true}, {math.MinInt, math.MaxInt, math.MaxInt - 1, false, true},
		{math.MinInt, math.MinInt + 1, math.MinInt, false, true}, {math.MinInt + 1, math.MinInt + 1, math.MinInt, true, false}, {math.MaxInt, math.MinInt + 1, math.MinInt, true, false},
	} {
		b := bounds{x.high, x.low}
		checkAsks(t, api.Sequencer, x.level, b, x.seq)
		checkAsks(t, api.Privilege, x.level, b, x.priv)
	}
}

// P14.1: levels of all numbers, with thresholds of all numbers, such that low is below high.
func TestAsksEverywhere(t *testing.T) {
	for _, high := range numbers {
		for _, low := range numbers {
			if low >= high {
				continue
			}
			for _, level := range numbers {
				for _, engine := range engines {
					checkAsks(t, engine, level, bounds{high, low}, asks(engine, level, bounds{high, low}))
				}
			}
		}
	}
}

// P14.1: small levels and thresholds, all of them.
func TestAsksSmall(t *testing.T) {
	for high := -8; high <= 8; high++ {
		for low := -9; low < high; low++ {
			for level := -10; level <= 10; level++ {
				for _, engine := range engines {
					checkAsks(t, engine, level, bounds{high, low}, asks(engine, level, bounds{high, low}))
				}
			}
		}
	}
}

// P14.3: no level asks for both, and one between the thresholds asks for none.
func TestAsksForOneAtMost(t *testing.T) {
	for _, b := range apart {
		for _, level := range append([]int{b.high, b.high - 1, b.low, b.low + 1, b.low/2 + b.high/2}, numbers...) {
			seq, priv := Asks(api.Sequencer, level, b.high, b.low), Asks(api.Privilege, level, b.high, b.low)
			if seq && priv {
				t.Error(level, b, "asks for both")
			}
			if between := b.low < level && level < b.high; between == (seq || priv) {
				t.Error(level, b, seq, priv)
			}
		}
	}
}

// checkStep: does Step answer this?
func checkStep(t *testing.T, hits, engine, level int, b bounds, hyst, left int, yes bool) {
	t.Helper()
	w := api.Want{Hits: hits}
	got, is := Step(w, engine, level, b.high, b.low, hyst)
	if got != (api.Want{Hits: left}) || is != yes {
		t.Errorf("Step(%v, %d, %d, %v, %d): %v %t, want %d %t", w, engine, level, b, hyst, got, is, left, yes)
	}
	if w != (api.Want{Hits: hits}) {
		t.Error("what was handed in is", w)
	}
}

// P14.2: where the level doesn't ask there are no hits behind it, however many there were, and none is yes.
func TestStepWithoutAsking(t *testing.T) {
	for _, hits := range []int{0, 1, 2, 3, 7, 999, 1000, 1001, 1 << 53, most - 1, most} {
		for _, hyst := range []int{1, 2, 3, 8, 1000, most, most + 1, math.MaxInt} {
			for _, b := range apart {
				for _, level := range numbers {
					for _, engine := range engines {
						if !asks(engine, level, b) {
							checkStep(t, hits, engine, level, b, hyst, 0, false)
						}
					}
				}
			}
		}
	}
}

// P14.2: the cases of Step where the level asks, each one written out: how many hits are left, and whether a switch is asked for.
func TestStepAskingCases(t *testing.T) {
	for _, x := range []struct {
		hits, hyst, left int
		yes              bool
	}{
		{0, 1, 0, true}, {1, 1, 0, true}, {2, 1, 0, true}, {1000, 1, 0, true}, {most - 1, 1, 0, true}, {most, 1, 0, true}, // one window is enough
		{0, 2, 1, false}, {1, 2, 0, true}, {2, 2, 0, true}, {3, 2, 0, true}, {most, 2, 0, true},
		{0, 3, 1, false}, {1, 3, 2, false}, {2, 3, 0, true}, {3, 3, 0, true}, {4, 3, 0, true}, {9, 3, 0, true}, {most, 3, 0, true},
		{0, 1000, 1, false}, {1, 1000, 2, false}, {500, 1000, 501, false}, {997, 1000, 998, false}, {998, 1000, 999, false}, {999, 1000, 0, true}, {1000, 1000, 0, true}, {1001, 1000, 0, true}, {most, 1000, 0, true},
		{0, 1 << 53, 1, false}, {1<<53 - 2, 1 << 53, 1<<53 - 1, false}, {1<<53 - 1, 1 << 53, 0, true}, {1 << 53, 1<<53 + 1, 0, true}, {1 << 53, 1<<53 + 2, 1<<53 + 1, false}, // which one float would hold as one
		{0, most, 1, false}, {most - 2, most, most - 1, false}, {most - 1, most, 0, true}, {most, most, 0, true}, // as many as there may be
		{most - 1, most + 1, most, false}, {most, most + 1, 0, true}, {most, most + 2, most + 1, false}, // more than there may be
		{0, math.MaxInt, 1, false}, {most, math.MaxInt, most + 1, false},
	} {
		for _, b := range apart {
			for _, level := range numbers {
				for _, engine := range engines {
					if asks(engine, level, b) {
						checkStep(t, x.hits, engine, level, b, x.hyst, x.left, x.yes)
					}
				}
			}
		}
	}
}

// P14.2: small hits and windows, all of them, with a level that asks, and with one that doesn't.
func TestStepSmall(t *testing.T) {
	b := bounds{10, 2}
	for hyst := 1; hyst <= 40; hyst++ {
		for hits := range 50 {
			left, yes := hits+1, false
			if hyst-hits <= 1 {
				left, yes = 0, true
			}
			checkStep(t, hits, api.Sequencer, 10, b, hyst, left, yes)
			checkStep(t, hits, api.Privilege, 2, b, hyst, left, yes)
			checkStep(t, hits, api.Sequencer, 2, b, hyst, 0, false)
			checkStep(t, hits, api.Privilege, 10, b, hyst, 0, false)
		}
	}
}

// P14.2 and P14.3: of windows that all ask each one of so many asks for a switch, as it is counted anew behind a yes.
func TestStepCountsAnew(t *testing.T) {
	for _, engine := range engines {
		level := []int{10, 2}[engine]
		for _, hyst := range []int{1, 2, 3, 10, 999, 1000} {
			w, many := api.Want{}, 0
			for i := 1; i <= 3*hyst+1; i++ {
				next, yes := Step(w, engine, level, 10, 2, hyst)
				if yes != (i%hyst == 0) || next.Hits != i%hyst {
					t.Fatal(engine, hyst, i, next, yes)
				}
				if yes {
					many++
				}
				w = next
			}
			if hyst > 1 && many != 3 || hyst == 1 && many != 4 {
				t.Error(engine, hyst, many)
			}
		}
	}
}

// P14.2 and P14.3: one window that doesn't ask, after however many that did, begins the count anew.
func TestStepBeginsAnew(t *testing.T) {
	for _, engine := range engines {
		level := []int{10, 2}[engine]
		for _, other := range []int{3, 5, 9, []int{2, 10}[engine], []int{math.MinInt, math.MaxInt}[engine]} {
			for _, hyst := range []int{2, 3, 7, 1000} {
				for _, ahead := range []int{0, 1, hyst / 2, hyst - 1} {
					w, yes := api.Want{}, false
					for i := range ahead + hyst + 1 {
						now := level
						if i == ahead {
							now = other
						}
						w, yes = Step(w, engine, now, 10, 2, hyst)
						if yes != (i == ahead+hyst) {
							t.Fatal(engine, other, hyst, ahead, i, w, yes)
						}
					}
				}
			}
		}
	}
}

// checkWindows: of windows in turn, is a switch asked for just where so many one behind the other ask for it? It is counted how many did so, up to each of them.
func checkWindows(t *testing.T, engine int, levels []int, b bounds, hyst int) (switches int) {
	t.Helper()
	w, row := api.Want{}, 0
	for i, level := range levels {
		row++
		if !asks(engine, level, b) {
			row = 0
		}
		// a row that goes on behind a yes is one of so many more
		want := row > 0 && row%hyst == 0
		next, yes := Step(w, engine, level, b.high, b.low, hyst)
		if yes != want || next.Hits != row%hyst {
			t.Fatal(engine, levels, b, hyst, "at", i, next, yes)
		}
		if yes {
			switches++
		}
		w = next
	}
	return switches
}

// P14.3: all orders of six windows, of levels below both thresholds, at each, between them, and above both.
func TestAllOrders(t *testing.T) {
	for _, x := range []struct {
		b      bounds
		levels [5]int
	}{{bounds{10, 2}, [5]int{1, 2, 5, 10, 11}}, {bounds{-3, -5}, [5]int{-6, -5, -4, -3, 0}}, {bounds{math.MaxInt - 1, math.MinInt + 1}, [5]int{math.MinInt, math.MinInt + 1, 0, math.MaxInt - 1, math.MaxInt}}} {
		for order := range 5 * 5 * 5 * 5 * 5 * 5 {
			levels := make([]int, 6)
			for i := range levels {
				levels[i] = x.levels[order%5]
				order /= 5
			}
			for hyst := 1; hyst <= 4; hyst++ {
				checkWindows(t, api.Sequencer, levels, x.b, hyst)
				checkWindows(t, api.Privilege, levels, x.b, hyst)
			}
		}
	}
}

// random tells numbers that look like any, but are the same in each run.
type random uint64

// below is the next one, from 0 to one less than n, which is 2^44 at most.
func (x *random) below(n int) int {
	*x = *x*6364136223846793005 + 1442695040888963407
	return int(uint64(*x)>>20) % n
}

// P14.3: over many windows in turn, most of which ask, for many lengths.
func TestManyWindows(t *testing.T) {
	var x random = 14
	for _, engine := range engines {
		switches := 0
		for range 200 {
			b := apart[x.below(len(apart))]
			hyst := 1 + x.below([]int{1, 2, 5, 20}[x.below(4)])
			often := 2 + x.below(30)
			levels := make([]int, 300)
			for i := range levels {
				if levels[i] = []int{b.high, b.low}[engine]; x.below(often) == 0 {
					levels[i] = numbers[x.below(len(numbers))]
				}
			}
			switches += checkWindows(t, engine, levels, b, hyst)
		}
		if switches < 1000 {
			t.Error(engine, "only", switches, "switches were asked for")
		}
	}
}

// P14.3: levels between the thresholds ask for no switch, of neither engine, however many they are.
func TestBetweenAsksForNone(t *testing.T) {
	for _, engine := range engines {
		for _, hyst := range []int{1, 2, 5} {
			for level := 3; level <= 9; level++ {
				w := api.Want{Hits: hyst - 1}
				for i := range 50 {
					next, yes := Step(w, engine, level, 10, 2, hyst)
					if yes || next.Hits != 0 {
						t.Fatal(engine, hyst, level, i, next, yes)
					}
					w = next
				}
			}
		}
	}
}

// P14.1, P14.2 and P14.3: a group whose engine turns when a switch is asked for turns to and fro with the load, and stays as long as it lies between the thresholds.
func TestToAndFro(t *testing.T) {
	w, engine, yes := api.Want{}, api.Sequencer, false
	for i, x := range []struct {
		level, engine, hits int
	}{
		{0, 0, 0}, {5, 0, 0}, {12, 0, 1}, {9, 0, 0}, {10, 0, 1}, {10, 1, 0}, // two windows of much, one behind the other
		{10, 1, 0}, {99, 1, 0}, {9, 1, 0}, {3, 1, 0}, {2, 1, 1}, {3, 1, 0}, {1, 1, 1}, {0, 0, 0}, // and two of little
		{0, 0, 0}, {2, 0, 0}, {3, 0, 0}, {11, 0, 1}, {11, 1, 0}, {2, 1, 1}, {2, 0, 0}, {10, 0, 1}, {2, 0, 0},
	} {
		if w, yes = Step(w, engine, x.level, 10, 2, 2); yes {
			engine = Other(engine)
		}
		if engine != x.engine || w.Hits != x.hits {
			t.Fatal(i, x, engine, w)
		}
	}
}

// P14.1, P14.2, R3 and R4: what is handed in stays, and what a call answers hangs on its arguments alone, not on calls before it.
func TestNothingIsKept(t *testing.T) {
	w := api.Want{Hits: 4}
	for range 3 {
		for _, n := range numbers {
			Asks(api.Privilege, n, 10, 2)
			Step(api.Want{Hits: 1}, api.Sequencer, n, 10, 2, 2)
			Other(api.Privilege)
			for _, engine := range engines {
				level := []int{10, 2}[engine]
				checkAsks(t, engine, level, bounds{10, 2}, true)
				checkAsks(t, engine, 5, bounds{10, 2}, false)
				for _, x := range []struct {
					level, hyst, left int
					yes               bool
				}{{level, 6, 5, false}, {level, 5, 0, true}, {5, 5, 0, false}} {
					got, is := Step(w, engine, x.level, 10, 2, x.hyst)
					if got.Hits != x.left || is != x.yes {
						t.Fatal(engine, x, got, is)
					}
				}
			}
		}
	}
	if w != (api.Want{Hits: 4}) {
		t.Error("what was handed in is", w)
	}
}

// P14.1 and P14.2: the example of the chapter, and the window behind it.
func TestExample(t *testing.T) {
	w, yes := api.Want{}, false
	for i, x := range []struct {
		level, hits int
		yes         bool
	}{{10, 1, false}, {5, 0, false}, {10, 1, false}, {11, 0, true}, {11, 1, false}} {
		if w, yes = Step(w, api.Sequencer, x.level, 10, 2, 2); w.Hits != x.hits || yes != x.yes {
			t.Fatal(i, x, w, yes)
		}
	}
}
