package meter

import (
	"math/big"
	"testing"

	"precentor/api"
)

// greatest is the greatest sum that the chapter names, and latest the greatest tick.
const (
	greatest = 1099511627776
	latest   = 1000
)

// amounts are sums, and what is added: none, one, many, at and beside the greatest one, its half, and powers of two at which narrower numbers end.
var amounts = []int{
	0, 1, 2, 3, 1000, 1<<24 - 1, 1 << 24, 1<<24 + 1, 1<<31 - 1, 1<<31 + 1, 1<<32 - 1, 1 << 32, 1<<32 + 1, 1<<33 + 3, 999999999999,
	greatest/2 - 1, greatest / 2, greatest/2 + 1, greatest - 1000, greatest - 3, greatest - 2, greatest - 1, greatest,
}

// ticks are places in a window, those that the chapter names and those in between.
var ticks = []int{0, 1, 2, 3, 9, 10, 11, 499, 500, latest - 2, latest - 1, latest}

// windows are how many ticks a window has, the bounds and those in between.
var windows = []int{1, 2, 3, 10, 11, 500, latest - 1, latest}

// right: is a load right?
func right(m api.Meter) bool {
	return 0 <= m.At && m.At <= latest && 0 <= m.Many && m.Many <= greatest && 0 <= m.Bytes && m.Bytes <= greatest
}

// grown is one sum behind an addition, reckoned as a number of any size.
func grown(sum, more int) int {
	z := new(big.Int).Add(big.NewInt(int64(sum)), big.NewInt(int64(more)))
	if z.Cmp(big.NewInt(greatest)) > 0 {
		return greatest
	}
	return int(z.Int64())
}

// checkAdd: does Add answer this, and is it right?
func checkAdd(t *testing.T, m api.Meter, many, size int, want api.Meter) {
	t.Helper()
	got := Add(m, many, size)
	if got != want {
		t.Errorf("Add(%v, %d, %d): %v, want %v", m, many, size, got, want)
	}
	if !right(got) {
		t.Errorf("Add(%v, %d, %d): %v, which isn't right", m, many, size, got)
	}
}

// P13.1: the cases of Add, each one written out.
func TestAddCases(t *testing.T) {
	for _, x := range []struct{ have, haveBytes, many, size, want, wantBytes int }{
		{0, 0, 0, 0, 0, 0}, {0, 0, 1, 0, 1, 0}, {0, 0, 0, 1, 0, 1}, {0, 0, 1, 1, 1, 1}, {0, 0, 3, 10, 3, 10}, // to a load of nothing
		{0, 0, 1099511627776, 0, 1099511627776, 0}, {0, 0, 0, 1099511627776, 0, 1099511627776}, {0, 0, 1099511627776, 1099511627776, 1099511627776, 1099511627776},
		{3, 10, 0, 0, 3, 10}, {3, 10, 1, 0, 4, 10}, {3, 10, 0, 1, 3, 11}, {3, 10, 1, 5, 4, 15}, {3, 10, 700, 8000, 703, 8010}, // to some
		{1, 0, 1, 0, 2, 0}, {0, 1, 0, 1, 0, 2}, {1, 2, 2, 1, 3, 3}, {10, 3, 5, 1, 15, 4},
		{1099511627775, 0, 0, 0, 1099511627775, 0}, {1099511627775, 0, 1, 0, 1099511627776, 0}, {1099511627775, 0, 2, 0, 1099511627776, 0}, // one less than the most of messages
		{1099511627775, 7, 1, 1, 1099511627776, 8}, {1099511627775, 7, 2, 1, 1099511627776, 8}, {1099511627775, 7, 1099511627776, 0, 1099511627776, 7},
		{0, 1099511627775, 0, 0, 0, 1099511627775}, {0, 1099511627775, 0, 1, 0, 1099511627776}, {0, 1099511627775, 0, 2, 0, 1099511627776}, // and of bytes
		{7, 1099511627775, 1, 1, 8, 1099511627776}, {7, 1099511627775, 1, 2, 8, 1099511627776}, {7, 1099511627775, 0, 1099511627776, 7, 1099511627776},
		{1099511627776, 0, 0, 0, 1099511627776, 0}, {1099511627776, 0, 1, 1, 1099511627776, 1}, {1099511627776, 0, 1099511627776, 5, 1099511627776, 5}, // the most of one
		{0, 1099511627776, 0, 0, 0, 1099511627776}, {0, 1099511627776, 1, 1, 1, 1099511627776}, {0, 1099511627776, 5, 1099511627776, 5, 1099511627776},
		{1099511627776, 1099511627776, 0, 0, 1099511627776, 1099511627776}, {1099511627776, 1099511627776, 1, 1, 1099511627776, 1099511627776}, // the most of both
		{1099511627776, 1099511627776, 1099511627776, 1099511627776, 1099511627776, 1099511627776},
		{1099511627775, 1099511627775, 1, 0, 1099511627776, 1099511627775}, {1099511627775, 1099511627775, 0, 1, 1099511627775, 1099511627776},
		{1099511627775, 1099511627775, 1, 1, 1099511627776, 1099511627776}, {1099511627775, 1099511627775, 2, 2, 1099511627776, 1099511627776},
		{549755813888, 549755813887, 549755813888, 549755813888, 1099511627776, 1099511627775}, // in between
		{549755813889, 549755813888, 549755813888, 549755813887, 1099511627776, 1099511627775},
		{1099511627773, 1099511627774, 2, 3, 1099511627775, 1099511627776}, {1099511627773, 1099511627774, 4, 1, 1099511627776, 1099511627775},
	} {
		for _, at := range ticks {
			want := api.Meter{At: at, Many: x.want, Bytes: x.wantBytes}
			checkAdd(t, api.Meter{At: at, Many: x.have, Bytes: x.haveBytes}, x.many, x.size, want)
		}
	}
}

// P13.1 and P13.3: Add of all amounts to loads of all amounts: each sum hangs on its own parts alone, and the tick stays.
func TestAddEverywhere(t *testing.T) {
	for _, have := range amounts {
		for _, haveBytes := range amounts {
			for _, many := range amounts {
				for i, size := range amounts {
					at := ticks[i%len(ticks)]
					want := api.Meter{At: at, Many: grown(have, many), Bytes: grown(haveBytes, size)}
					checkAdd(t, api.Meter{At: at, Many: have, Bytes: haveBytes}, many, size, want)
				}
			}
		}
	}
}

// P13.1: small loads, all of them, to which all that is small is added.
func TestAddSmall(t *testing.T) {
	for n := range 6 * 6 * 6 * 6 {
		have, haveBytes, many, size := n%6, n/6%6, n/36%6, n/216
		checkAdd(t, api.Meter{At: n % 1001, Many: have, Bytes: haveBytes}, many, size, api.Meter{At: n % 1001, Many: have + many, Bytes: haveBytes + size})
	}
}

// P13.1: sums far above 2^32 are told to the last one, odd ones too.
func TestAddIsNotRounded(t *testing.T) {
	for _, x := range []struct{ have, more, want int }{
		{4294967296, 1, 4294967297}, {4294967297, 2, 4294967299}, {8589934595, 4294967296, 12884901891}, {1, 549755813888, 549755813889},
		{549755813889, 274877906945, 824633720834}, {549755813889, 274877906944, 824633720833}, {733007751849, 366503875925, 1099511627774}, {733007751850, 366503875925, 1099511627775},
		{999999999999, 2, 1000000000001}, {123456789012, 876543210987, 999999999999}, {1099511627772, 1, 1099511627773}, {1099511627772, 3, 1099511627775},
	} {
		checkAdd(t, api.Meter{Many: x.have}, x.more, 0, api.Meter{Many: x.want})
		checkAdd(t, api.Meter{Bytes: x.have}, 0, x.more, api.Meter{Bytes: x.want})
		checkAdd(t, api.Meter{At: 5, Many: x.more, Bytes: x.more}, x.have, x.have, api.Meter{At: 5, Many: x.want, Bytes: x.want})
	}
}

// P13.1: one by one from one less than a power of two on, no sum stands still or leaps.
func TestAddOneByOne(t *testing.T) {
	for bits := 10; bits <= 40; bits++ {
		from := 1<<bits - 7
		m := api.Meter{At: bits, Many: from, Bytes: from - 1}
		for i := 1; i <= 12; i++ {
			m = Add(m, 1, 1)
			if want := (api.Meter{At: bits, Many: min(from+i, greatest), Bytes: min(from-1+i, greatest)}); m != want {
				t.Fatal(bits, i, m, want)
			}
		}
	}
}

// P13.1 and P13.3: however often something is added to the most, it stays the most.
func TestAddBeyondTheMost(t *testing.T) {
	m := api.Meter{At: 7, Many: greatest - 1, Bytes: 3}
	for i := range 200 {
		m = Add(m, greatest, 2)
		if want := (api.Meter{At: 7, Many: greatest, Bytes: 5 + 2*i}); m != want {
			t.Fatal(i, m, want)
		}
	}
}

// told is what Tick tells of a window: how many messages, and bytes, there were, and whether it is over.
type told struct {
	many, size int
	over       bool
}

// checkTick: does Tick answer this, and is it right?
func checkTick(t *testing.T, m api.Meter, window int, next api.Meter, want told) {
	t.Helper()
	got, many, size, over := Tick(m, window)
	if got != next || (told{many, size, over}) != want {
		t.Errorf("Tick(%v, %d): %v %d %d %t, want %v %v", m, window, got, many, size, over, next, want)
	}
	if !right(got) {
		t.Errorf("Tick(%v, %d): %v, which isn't right", m, window, got)
	}
}

// P13.2: the cases of Tick, each one written out: how far a load is in its window, and whether that is over.
func TestTickCases(t *testing.T) {
	for _, x := range []struct {
		at, window, next int
		over             bool
	}{
		{0, 1, 0, true}, {1, 1, 0, true}, {2, 1, 0, true}, {1000, 1, 0, true}, // one tick is a window
		{0, 2, 1, false}, {1, 2, 0, true}, {2, 2, 0, true}, {3, 2, 0, true}, {1000, 2, 0, true},
		{0, 3, 1, false}, {1, 3, 2, false}, {2, 3, 0, true}, {3, 3, 0, true}, {4, 3, 0, true},
		{0, 10, 1, false}, {7, 10, 8, false}, {8, 10, 9, false}, {9, 10, 0, true}, {10, 10, 0, true}, {11, 10, 0, true}, {999, 10, 0, true}, {1000, 10, 0, true},
		{0, 999, 1, false}, {996, 999, 997, false}, {997, 999, 998, false}, {998, 999, 0, true}, {999, 999, 0, true}, {1000, 999, 0, true},
		{0, 1000, 1, false}, {500, 1000, 501, false}, {997, 1000, 998, false}, {998, 1000, 999, false}, {999, 1000, 0, true}, {1000, 1000, 0, true}, // the longest one
	} {
		for i, many := range amounts {
			size := amounts[len(amounts)-1-i]
			next, want := api.Meter{At: x.next, Many: many, Bytes: size}, told{}
			if x.over {
				next, want = api.Meter{}, told{many, size, true}
			}
			checkTick(t, api.Meter{At: x.at, Many: many, Bytes: size}, x.window, next, want)
		}
	}
}

// ticked is what a tick makes of a load, and what it tells, by what is left of the window.
func ticked(m api.Meter, window int) (api.Meter, told) {
	if left := window - m.At; left > 1 {
		return api.Meter{At: window - left + 1, Many: m.Many, Bytes: m.Bytes}, told{}
	}
	return api.Meter{}, told{m.Many, m.Bytes, true}
}

// P13.2 and P13.3: a tick at all places of windows of all lengths.
func TestTickAtAllPlaces(t *testing.T) {
	for window := 1; window <= latest; window++ {
		for at := 0; at <= latest; at++ {
			m := api.Meter{At: at, Many: at + 1, Bytes: 1<<33 + window}
			next, want := ticked(m, window)
			checkTick(t, m, window, next, want)
		}
	}
}

// P13.2 and P13.3: a tick of loads of all amounts, ahead of the end of windows, at it, and behind it.
func TestTickEverywhere(t *testing.T) {
	for _, window := range windows {
		for _, at := range append([]int{max(window-3, 0), max(window-2, 0), window - 1, window, min(window+1, latest)}, ticks...) {
			for _, many := range amounts {
				for _, size := range amounts {
					m := api.Meter{At: at, Many: many, Bytes: size}
					next, want := ticked(m, window)
					checkTick(t, m, window, next, want)
				}
			}
		}
	}
}

// P13.2: from a load of nothing on a window is over at its last tick and at none ahead of it, and then the next one begins.
func TestWindowsHaveTheirTicks(t *testing.T) {
	for window := 1; window <= latest; window++ {
		m := api.Meter{Many: 9, Bytes: 70}
		for _, want := range []told{{9, 70, true}, {0, 0, true}, {0, 0, true}} {
			for i := 1; i < window; i++ {
				checkTick(t, m, window, api.Meter{At: i, Many: want.many, Bytes: want.size}, told{})
				m, _, _, _ = Tick(m, window)
			}
			checkTick(t, m, window, api.Meter{}, want)
			m, _, _, _ = Tick(m, window)
		}
	}
}

// P13.2: it is the window of the tick that counts, not that of those before it.
func TestWindowsOfOtherLengths(t *testing.T) {
	m := api.Meter{Many: 1, Bytes: 2}
	for _, x := range []struct {
		window int
		next   api.Meter
		want   told
	}{
		{5, api.Meter{At: 1, Many: 1, Bytes: 2}, told{}}, {5, api.Meter{At: 2, Many: 1, Bytes: 2}, told{}}, {1000, api.Meter{At: 3, Many: 1, Bytes: 2}, told{}},
		{2, api.Meter{}, told{1, 2, true}}, {2, api.Meter{At: 1}, told{}}, {3, api.Meter{At: 2}, told{}}, {1, api.Meter{}, told{0, 0, true}},
	} {
		checkTick(t, m, x.window, x.next, x.want)
		m, _, _, _ = Tick(m, x.window)
	}
}

// random tells numbers that look like any, but are the same in each run.
type random uint64

// below is the next one, from 0 to one less than n, which is 2^44 at most.
func (x *random) below(n int) int {
	*x = *x*6364136223846793005 + 1442695040888963407
	return int(uint64(*x)>>20) % n
}

// amount is any amount: none, a few, many, and so many that a few times of it are the most.
func (x *random) amount() int {
	return x.below([]int{1, 2, 100, 1 << 33, greatest/3 + 1, greatest + 1}[x.below(6)])
}

// run is what went on with a load, from none on: its window's ticks, and what was added in them.
type run struct {
	m          api.Meter
	window     int
	ticks      int
	many, size int
	over       int // how many windows are over
	beyond     int // of how many of these a sum was above the most
}

// add is an addition, with what must hold behind it.
func (x *run) add(t *testing.T, many, size int) {
	t.Helper()
	x.many, x.size = x.many+many, x.size+size
	want := api.Meter{At: x.ticks, Many: min(x.many, greatest), Bytes: min(x.size, greatest)}
	checkAdd(t, x.m, many, size, want)
	x.m = Add(x.m, many, size)
}

// tick is a tick, with what must hold behind it; a window that is over told all that was added in it, and nothing else.
func (x *run) tick(t *testing.T) {
	t.Helper()
	many, size := min(x.many, greatest), min(x.size, greatest)
	next, want := api.Meter{At: x.ticks + 1, Many: many, Bytes: size}, told{}
	if x.ticks+1 == x.window {
		next, want = api.Meter{}, told{many, size, true}
	}
	checkTick(t, x.m, x.window, next, want)
	x.m, _, _, want.over = Tick(x.m, x.window)
	x.ticks++
	if want.over {
		x.over++
		if x.many > greatest || x.size > greatest {
			x.beyond++
		}
		x.ticks, x.many, x.size = 0, 0, 0
	}
}

// P13.3: over many calls in turn loads stay right, and each window tells all that was added in its ticks, as long as that is the most or less.
func TestRuns(t *testing.T) {
	var x random = 13
	over, beyond := 0, 0
	for range 300 {
		y := run{window: 1 + x.below([]int{1, 2, 5, 20, latest}[x.below(5)])}
		busy := 1 + x.below(7)
		for range 300 {
			if x.below(8) < busy {
				y.add(t, x.amount(), x.amount())
			} else {
				y.tick(t)
			}
		}
		over, beyond = over+y.over, beyond+y.beyond
	}
	if over < 1000 || beyond < 100 || over-beyond < 100 {
		t.Error("only", over, "windows are over, of which", beyond, "were of too much")
	}
}

// P13.3: all orders of ten additions and ticks, in windows of one to four.
func TestAllOrders(t *testing.T) {
	for window := 1; window <= 4; window++ {
		for steps := range 1 << 10 {
			x := run{window: window}
			for i := range 10 {
				if steps>>i&1 == 0 {
					x.add(t, 1<<i, 3<<(2*i))
				} else {
					x.tick(t)
				}
			}
		}
	}
}

// P13.3: of what is added in windows one behind the other all is told in the end, even where each window has just the most.
func TestNothingIsLost(t *testing.T) {
	for _, window := range []int{1, 2, 7, 64, latest} {
		for _, each := range []int{1, 1<<32 + 1, greatest/window - 1, greatest / window} {
			m, in, out, size := api.Meter{}, 0, 0, 0
			for range 5 * window {
				m = Add(m, each, 1)
				in += each
				var many, b int
				m, many, b, _ = Tick(m, window)
				out, size = out+many, size+b
			}
			// beyond the most something may be lost
			if each*window <= greatest && (out != in || size != 5*window) {
				t.Error(window, each, "in", in, "out", out, size)
			}
			if m != (api.Meter{}) {
				t.Error(window, each, m, "is left")
			}
		}
	}
}

// P13.3: no window's sums hold anything of another's, be it of nothing, of little, or of more than the most.
func TestWindowsAreApart(t *testing.T) {
	in := []told{{many: 3, size: 10}, {}, {many: greatest, size: greatest}, {many: 1}, {size: 1}, {many: greatest + 5, size: 7}, {}, {many: 2, size: greatest - 1}, {many: greatest - 1, size: 2}}
	for _, window := range []int{1, 2, 3, 50, latest} {
		m := api.Meter{}
		for i, x := range in {
			// in two parts, at the window's first tick and at its last one, as an addition is of the most at most
			m = Add(m, min(x.many, 6), x.size/2)
			for range window - 1 {
				m, _, _, _ = Tick(m, window)
			}
			m = Add(m, x.many-min(x.many, 6), x.size-x.size/2)
			next, many, size, over := Tick(m, window)
			if want := (told{min(x.many, greatest), min(x.size, greatest), true}); next != (api.Meter{}) || (told{many, size, over}) != want {
				t.Error(window, i, next, many, size, over, want)
			}
			m = next
		}
	}
}

// P13.1, P13.2, R3 and R4: what is handed in stays, and what a call answers hangs on its arguments alone, not on calls before it.
func TestNothingIsKept(t *testing.T) {
	m := api.Meter{At: 3, Many: 1<<32 + 1, Bytes: greatest - 1}
	for range 3 {
		for _, n := range amounts {
			Add(api.Meter{At: 1, Many: n, Bytes: 5}, n, 1)
			Tick(api.Meter{At: 9, Many: 5, Bytes: n}, 10)
			checkAdd(t, m, 2, 1, api.Meter{At: 3, Many: 1<<32 + 3, Bytes: greatest})
			checkTick(t, m, 5, api.Meter{At: 4, Many: 1<<32 + 1, Bytes: greatest - 1}, told{})
			checkTick(t, m, 4, api.Meter{}, told{1<<32 + 1, greatest - 1, true})
		}
	}
	if m != (api.Meter{At: 3, Many: 1<<32 + 1, Bytes: greatest - 1}) {
		t.Error("the load that was handed in is", m)
	}
}

// P13.1 and P13.2: the example of the chapter, and the window behind it.
func TestExample(t *testing.T) {
	m := Add(api.Meter{}, 3, 10)
	checkTick(t, m, 2, api.Meter{At: 1, Many: 3, Bytes: 10}, told{})
	m, _, _, _ = Tick(m, 2)
	m = Add(m, 1, 5)
	checkTick(t, m, 2, api.Meter{}, told{4, 15, true})
	m, _, _, _ = Tick(m, 2)
	m = Add(m, 1, 1)
	checkTick(t, m, 2, api.Meter{At: 1, Many: 1, Bytes: 1}, told{})
}
