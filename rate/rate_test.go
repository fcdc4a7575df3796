package rate

import (
	"math"
	"testing"

	"precentor/api"
)

// greatest is the greatest bound that the chapter names.
const greatest = 1048576

// bounds are those of a bucket.
type bounds struct{ least, most, burst int }

// great are bounds at and beside the greatest ones.
var great = []bounds{
	{1, greatest, greatest}, {greatest, greatest, greatest}, {greatest - 1, greatest, greatest - 1}, {greatest / 2, greatest, greatest},
	{greatest/2 + 1, greatest - 1, greatest}, {1, greatest, 1}, {greatest, greatest, 1}, {1, 1, greatest}, {3, greatest - 1, greatest - 3},
}

// naks are told numbers of gaps, from the least to the greatest.
var naks = []int{math.MinInt, -7, -1, 0, 1, 2, 7, 1 << 20, 1 << 53, math.MaxInt}

// around are the numbers at and beside those that are told, which are from the one bound to the other.
func around(lo, hi int, at ...int) []int {
	var out []int
	for _, x := range at {
		for n := x - 1; n <= x+1; n++ {
			if lo <= n && n <= hi {
				out = append(out, n)
			}
		}
	}
	return out
}

// small calls a test with all right buckets and bounds up to 7.
func small(f func(r api.Rate, b bounds)) {
	for most := 1; most <= 7; most++ {
		for least := 1; least <= most; least++ {
			for burst := 1; burst <= 7; burst++ {
				for now := least; now <= most; now++ {
					for left := 0; left <= burst; left++ {
						f(api.Rate{Now: now, Left: left}, bounds{least, most, burst})
					}
				}
			}
		}
	}
}

// large calls a test with buckets at the edges of great bounds: where half of Now is least, and where Now more fills the bucket.
func large(f func(r api.Rate, b bounds)) {
	for _, b := range great {
		for _, now := range around(b.least, b.most, b.least, 2*b.least, b.most/2, b.most) {
			for _, left := range around(0, b.burst, 0, b.burst-now, b.burst-now/2, b.burst/2, b.burst) {
				f(api.Rate{Now: now, Left: left}, b)
			}
		}
	}
}

// tick is what a tick makes of a bucket, in ints alone.
func tick(r api.Rate, b bounds, naks int) api.Rate {
	now := r.Now + 1
	if naks > 0 {
		now = r.Now >> 1
		if now < b.least {
			now = b.least
		}
	} else if now > b.most {
		now = b.most
	}
	left := r.Left + now
	if left > b.burst {
		left = b.burst
	}
	return api.Rate{Now: now, Left: left}
}

// checkTick: does Tick answer this, and is it right?
func checkTick(t *testing.T, r api.Rate, b bounds, naks int, want api.Rate) {
	t.Helper()
	got := Tick(r, b.least, b.most, b.burst, naks)
	if got != want {
		t.Errorf("Tick(%v, %v, %d): %v, want %v", r, b, naks, got, want)
	}
	if !Right(got, b.least, b.most, b.burst) {
		t.Errorf("Tick(%v, %v, %d): %v, which isn't right", r, b, naks, got)
	}
}

// checkSpend: is so much spent just if it may be, and is what is refused as it was?
func checkSpend(t *testing.T, r api.Rate, n int) {
	t.Helper()
	want, may := r, n >= 0 && n <= r.Left
	if may {
		want = api.Rate{Now: r.Now, Left: r.Left - n}
	}
	if got, is := Spend(r, n); got != want || is != may {
		t.Errorf("Spend(%v, %d): %v %v, want %v %v", r, n, got, is, want, may)
	}
}

// P11.1: a bucket at the beginning has Now at most and Left at burst, and is right.
func TestStart(t *testing.T) {
	for _, most := range []int{1, 2, 5, 1000, greatest - 1, greatest} {
		for _, burst := range []int{1, 2, 9, 1000, greatest - 1, greatest} {
			if got := Start(most, burst); got != (api.Rate{Now: most, Left: burst}) {
				t.Error(most, burst, got)
			}
			for _, least := range []int{1, most} {
				if !Right(Start(most, burst), least, most, burst) {
					t.Error(least, most, burst, "isn't right")
				}
			}
		}
	}
}

// P11.1: the cases of Right, each one written out: those that are just right, and such as are off by one.
func TestRightCases(t *testing.T) {
	for _, x := range []struct {
		now, left, least, most, burst int
		want                          bool
	}{
		{8, 3, 1, 8, 20, true}, {1, 3, 1, 8, 20, true}, {5, 0, 1, 8, 20, true}, {5, 20, 1, 8, 20, true}, {5, 5, 5, 5, 5, true},
		{9, 3, 1, 8, 20, false}, {0, 3, 1, 8, 20, false}, {2, 3, 3, 8, 20, false}, // Now above most, below least
		{5, -1, 1, 8, 20, false}, {5, 21, 1, 8, 20, false}, // Left below 0, above burst
		{1, 0, 1, 1, 1, true}, {1, 1, 1, 1, 1, true}, {1, 2, 1, 1, 1, false}, {2, 1, 1, 1, 1, false}, {0, 1, 1, 1, 1, false}, // the least bounds
		{8, 3, 0, 8, 20, false}, {0, 3, 0, 8, 20, false}, {8, 3, -1, 8, 20, false}, // least below 1
		{8, 3, 8, 8, 20, true}, {8, 3, 9, 8, 20, false}, {9, 3, 9, 8, 20, false}, // least at most, above it
		{8, 0, 1, 8, 1, true}, {8, 0, 1, 8, 0, false}, {8, -1, 1, 8, -1, false}, // burst below 1
		{0, 0, 0, 0, 1, false}, {0, 0, 0, 0, 0, false}, {1, 0, 1, 0, 1, false}, {0, 0, 1, 0, 1, false}, // most below 1
		{greatest, greatest, 1, greatest, greatest, true}, {greatest, 0, greatest, greatest, greatest, true}, // the greatest bounds
		{greatest, 3, 1, greatest + 1, 20, false}, {greatest + 1, 3, 1, greatest + 1, 20, false}, {8, 3, 1, greatest + 1, 20, false},
		{8, greatest, 1, 8, greatest + 1, false}, {8, greatest + 1, 1, 8, greatest + 1, false}, {8, 3, 1, 8, greatest + 1, false},
		{greatest + 1, 3, 1, greatest, 20, false}, {8, greatest + 1, 1, 8, greatest, false},
		{greatest + 1, 3, greatest + 1, greatest + 1, 20, false}, {greatest, 3, greatest + 1, greatest, 20, false},
	} {
		if got := Right(api.Rate{Now: x.now, Left: x.left}, x.least, x.most, x.burst); got != x.want {
			t.Error(x, got)
		}
	}
}

// isRight is what the chapter calls right, one bound behind the other.
func isRight(now, left, least, most, burst int) bool {
	for _, below := range [][2]int{{least, 1}, {most, least}, {greatest, most}, {greatest, burst}, {burst, 1}, {now, least}, {most, now}, {left, 0}, {burst, left}} {
		if below[0] < below[1] {
			return false
		}
	}
	return true
}

// P11.1: Right of any ints, small ones, those around the greatest bound, and the least and the greatest of all.
func TestRightOfAny(t *testing.T) {
	ints := []int{math.MinInt, math.MinInt + 1, -1, 0, 1, 2, 3, greatest - 1, greatest, greatest + 1, 1 << 53, math.MaxInt - 1, math.MaxInt}
	many := 0
	for _, now := range ints {
		for _, left := range ints {
			for _, least := range ints {
				for _, most := range ints {
					for _, burst := range ints {
						want := isRight(now, left, least, most, burst)
						if got := Right(api.Rate{Now: now, Left: left}, least, most, burst); got != want {
							t.Fatal(now, left, least, most, burst, got)
						}
						if want {
							many++
						}
					}
				}
			}
		}
	}
	if many == 0 {
		t.Error("none of them is right")
	}
}

// P11.1: all buckets that may be at small bounds are right.
func TestRightOfSmall(t *testing.T) {
	check := func(r api.Rate, b bounds) {
		if !Right(r, b.least, b.most, b.burst) {
			t.Error(r, b)
		}
	}
	small(check)
	large(check)
}

// P11.2: the cases of a tick with gaps, each one written out: Now is half of it, rounded down, but least at least.
func TestTickWithGaps(t *testing.T) {
	for _, x := range []struct {
		r    api.Rate
		b    bounds
		want api.Rate
	}{
		{api.Rate{Now: 8, Left: 3}, bounds{1, 8, 20}, api.Rate{Now: 4, Left: 7}},
		{api.Rate{Now: 7, Left: 3}, bounds{1, 8, 20}, api.Rate{Now: 3, Left: 6}}, // odd: rounded down
		{api.Rate{Now: 8, Left: 3}, bounds{3, 8, 20}, api.Rate{Now: 4, Left: 7}}, // half is above least, at it, below it
		{api.Rate{Now: 8, Left: 3}, bounds{4, 8, 20}, api.Rate{Now: 4, Left: 7}},
		{api.Rate{Now: 8, Left: 3}, bounds{5, 8, 20}, api.Rate{Now: 5, Left: 8}},
		{api.Rate{Now: 9, Left: 3}, bounds{4, 9, 20}, api.Rate{Now: 4, Left: 7}}, // the same of odd ones
		{api.Rate{Now: 9, Left: 3}, bounds{5, 9, 20}, api.Rate{Now: 5, Left: 8}},
		{api.Rate{Now: 9, Left: 3}, bounds{3, 9, 20}, api.Rate{Now: 4, Left: 7}},
		{api.Rate{Now: 5, Left: 3}, bounds{5, 9, 20}, api.Rate{Now: 5, Left: 8}}, // Now at least, and one above it
		{api.Rate{Now: 6, Left: 3}, bounds{5, 9, 20}, api.Rate{Now: 5, Left: 8}},
		{api.Rate{Now: 1, Left: 0}, bounds{1, 9, 20}, api.Rate{Now: 1, Left: 1}},
		{api.Rate{Now: 2, Left: 0}, bounds{1, 9, 20}, api.Rate{Now: 1, Left: 1}},
		{api.Rate{Now: 3, Left: 0}, bounds{1, 9, 20}, api.Rate{Now: 1, Left: 1}},
		{api.Rate{Now: 8, Left: 15}, bounds{1, 8, 20}, api.Rate{Now: 4, Left: 19}}, // one below burst, at it, above it
		{api.Rate{Now: 8, Left: 16}, bounds{1, 8, 20}, api.Rate{Now: 4, Left: 20}},
		{api.Rate{Now: 8, Left: 17}, bounds{1, 8, 20}, api.Rate{Now: 4, Left: 20}},
		{api.Rate{Now: 8, Left: 20}, bounds{1, 8, 20}, api.Rate{Now: 4, Left: 20}},
		{api.Rate{Now: 8, Left: 0}, bounds{1, 8, 3}, api.Rate{Now: 4, Left: 3}}, // burst is less than is refilled
		{api.Rate{Now: 1, Left: 0}, bounds{1, 1, 1}, api.Rate{Now: 1, Left: 1}},
		{api.Rate{Now: 1, Left: 1}, bounds{1, 1, 1}, api.Rate{Now: 1, Left: 1}},
		{api.Rate{Now: greatest, Left: 0}, bounds{greatest, greatest, greatest}, api.Rate{Now: greatest, Left: greatest}},
		{api.Rate{Now: greatest, Left: greatest}, bounds{greatest, greatest, greatest}, api.Rate{Now: greatest, Left: greatest}},
		{api.Rate{Now: greatest, Left: 7}, bounds{1, greatest, greatest}, api.Rate{Now: 524288, Left: 524295}},
		{api.Rate{Now: greatest - 1, Left: 7}, bounds{1, greatest, greatest}, api.Rate{Now: 524287, Left: 524294}},
	} {
		for _, n := range []int{1, 2, 9, 1 << 20, math.MaxInt} {
			checkTick(t, x.r, x.b, n, x.want)
		}
	}
}

// P11.2: the cases of a tick without gaps, each one written out: Now is one more, but most at most.
func TestTickWithoutGaps(t *testing.T) {
	for _, x := range []struct {
		r    api.Rate
		b    bounds
		want api.Rate
	}{
		{api.Rate{Now: 8, Left: 3}, bounds{1, 8, 20}, api.Rate{Now: 8, Left: 11}}, // Now at most, one below it, two below it
		{api.Rate{Now: 7, Left: 3}, bounds{1, 8, 20}, api.Rate{Now: 8, Left: 11}},
		{api.Rate{Now: 6, Left: 3}, bounds{1, 8, 20}, api.Rate{Now: 7, Left: 10}},
		{api.Rate{Now: 1, Left: 3}, bounds{1, 8, 20}, api.Rate{Now: 2, Left: 5}}, // Now at least
		{api.Rate{Now: 5, Left: 3}, bounds{5, 8, 20}, api.Rate{Now: 6, Left: 9}},
		{api.Rate{Now: 5, Left: 3}, bounds{5, 5, 20}, api.Rate{Now: 5, Left: 8}},
		{api.Rate{Now: 8, Left: 11}, bounds{1, 8, 20}, api.Rate{Now: 8, Left: 19}}, // one below burst, at it, above it
		{api.Rate{Now: 8, Left: 12}, bounds{1, 8, 20}, api.Rate{Now: 8, Left: 20}},
		{api.Rate{Now: 8, Left: 13}, bounds{1, 8, 20}, api.Rate{Now: 8, Left: 20}},
		{api.Rate{Now: 8, Left: 20}, bounds{1, 8, 20}, api.Rate{Now: 8, Left: 20}},
		{api.Rate{Now: 7, Left: 0}, bounds{1, 8, 3}, api.Rate{Now: 8, Left: 3}}, // burst is less than is refilled
		{api.Rate{Now: 1, Left: 0}, bounds{1, 1, 1}, api.Rate{Now: 1, Left: 1}},
		{api.Rate{Now: 1, Left: 1}, bounds{1, 1, 1}, api.Rate{Now: 1, Left: 1}},
		{api.Rate{Now: greatest, Left: 0}, bounds{greatest, greatest, greatest}, api.Rate{Now: greatest, Left: greatest}},
		{api.Rate{Now: greatest, Left: greatest}, bounds{1, greatest, greatest}, api.Rate{Now: greatest, Left: greatest}},
		{api.Rate{Now: greatest - 1, Left: 0}, bounds{1, greatest, greatest}, api.Rate{Now: greatest, Left: greatest}},
		{api.Rate{Now: greatest - 2, Left: 0}, bounds{1, greatest, greatest}, api.Rate{Now: greatest - 1, Left: greatest - 1}},
	} {
		for _, n := range []int{0, -1, -2, -1 << 20, math.MinInt} {
			checkTick(t, x.r, x.b, n, x.want)
		}
	}
}

// P11.2 and P11.4: a tick of all buckets at small bounds, and of those at the edges of great ones, with any number of gaps.
func TestTickEverywhere(t *testing.T) {
	check := func(r api.Rate, b bounds) {
		for _, n := range naks {
			checkTick(t, r, b, n, tick(r, b, n))
		}
	}
	small(check)
	large(check)
}

// P11.3: the cases of a spend, each one written out.
func TestSpendCases(t *testing.T) {
	for _, x := range []struct {
		left, n, want int
		is            bool
	}{
		{3, 0, 3, true}, {3, 1, 2, true}, {3, 2, 1, true}, {3, 3, 0, true}, {3, 4, 3, false}, {3, 5, 3, false},
		{3, -1, 3, false}, {3, -3, 3, false}, {3, math.MinInt, 3, false}, {3, math.MaxInt, 3, false}, {3, 1 << 62, 3, false}, {3, 1<<32 + 1, 3, false},
		{0, 0, 0, true}, {0, 1, 0, false}, {0, -1, 0, false}, {0, math.MinInt, 0, false}, {0, math.MaxInt, 0, false},
		{1, 0, 1, true}, {1, 1, 0, true}, {1, 2, 1, false}, {1, -1, 1, false},
		{greatest, 0, greatest, true}, {greatest, 1, greatest - 1, true}, {greatest, greatest - 1, 1, true}, {greatest, greatest, 0, true},
		{greatest, greatest + 1, greatest, false}, {greatest, -greatest, greatest, false}, {greatest, math.MaxInt, greatest, false}, {greatest, math.MinInt, greatest, false},
	} {
		for _, now := range []int{1, 2, 8, greatest} {
			if got, is := Spend(api.Rate{Now: now, Left: x.left}, x.n); got != (api.Rate{Now: now, Left: x.want}) || is != x.is {
				t.Error(now, x, got, is)
			}
		}
	}
}

// P11.3 and P11.4: a spend of any number from all buckets at small bounds, and from those at the edges of great ones; they stay right.
func TestSpendEverywhere(t *testing.T) {
	check := func(r api.Rate, b bounds) {
		for _, n := range append([]int{math.MinInt, math.MinInt + 1, -greatest, greatest + 1, 1 << 53, math.MaxInt - 1, math.MaxInt}, around(-3, greatest+3, -1, 0, 1, r.Left, r.Left/2, b.burst)...) {
			checkSpend(t, r, n)
			if got, _ := Spend(r, n); !Right(got, b.least, b.most, b.burst) {
				t.Errorf("Spend(%v, %d): %v, which isn't right for %v", r, n, got, b)
			}
		}
	}
	small(check)
	large(check)
}

// random tells numbers that look like any, but are the same in each run.
type random uint64

// below is the next one, from 0 to one less than n.
func (x *random) below(n int) int {
	*x = *x*6364136223846793005 + 1442695040888963407
	return int(uint64(*x)>>33) % n
}

// anyBounds are bounds that may be: small ones, and great ones.
func (x *random) anyBounds() bounds {
	top := []int{1, 2, 10, 1000, greatest}[x.below(5)]
	most := 1 + x.below(top)
	return bounds{1 + x.below(most), most, 1 + x.below([]int{1, 10, 1000, greatest}[x.below(4)])}
}

// anyNaks are gaps that were told of: none at many of the ticks.
func (x *random) anyNaks() int {
	return max(0, x.below(8)-x.below(8)-2)
}

// run is what went on in a bucket, from some bucket on.
type run struct {
	r     api.Rate
	b     bounds
	ticks int
	spent int
	full  bool // it was full behind some tick
}

// tick is a tick, with what must hold behind it.
func (x *run) tick(t *testing.T, naks int) {
	t.Helper()
	want := tick(x.r, x.b, naks)
	checkTick(t, x.r, x.b, naks, want)
	x.r = Tick(x.r, x.b.least, x.b.most, x.b.burst, naks)
	x.ticks++
	x.full = x.full || x.r.Left == x.b.burst
}

// spend is a spend, with what must hold behind it.
func (x *run) spend(t *testing.T, n int) {
	t.Helper()
	checkSpend(t, x.r, n)
	r, is := Spend(x.r, n)
	if is {
		x.spent += n
	}
	x.r = r
	if !Right(x.r, x.b.least, x.b.most, x.b.burst) {
		t.Errorf("%v isn't right for %v", x.r, x.b)
	}
}

// bound: is no more spent than may be, and may as much be spent as must be?
func (x *run) bound(t *testing.T) {
	t.Helper()
	if x.spent > x.ticks*x.b.most+x.b.burst {
		t.Errorf("%v: %d is spent in %d ticks", x.b, x.spent, x.ticks)
	}
	if !x.full && x.spent+x.r.Left < x.ticks*x.b.least {
		t.Errorf("%v: only %d is spent, and %d left, in %d ticks", x.b, x.spent, x.r.Left, x.ticks)
	}
}

// P11.4: over many ticks and spends buckets stay right, and what is spent stays in its bounds.
func TestRuns(t *testing.T) {
	var x random = 11
	never := 0
	for range 400 {
		b := x.anyBounds()
		now := b.least + x.below(b.most-b.least+1)
		y := run{r: api.Rate{Now: now, Left: x.below(b.burst + 1)}, b: b}
		greed := 1 + x.below(4)
		for range 300 {
			if x.below(3) == 0 {
				y.tick(t, x.anyNaks())
			}
			y.spend(t, x.below(y.r.Left*greed/2+2)-x.below(2))
			y.bound(t)
		}
		if !y.full && y.ticks > 0 {
			never++
		}
	}
	if never < 20 {
		t.Error("only", never, "runs were never full")
	}
}

// spendAll ticks n times, and spends all that is left ahead of the first tick and behind each.
func spendAll(t *testing.T, r api.Rate, b bounds, n int, naks func(tick int) int) run {
	t.Helper()
	x := run{r: r, b: b}
	x.spend(t, x.r.Left)
	for i := range n {
		x.tick(t, naks(i))
		x.spend(t, x.r.Left)
		x.bound(t)
	}
	return x
}

// P11.4: without gaps just n times most and burst is spent in n ticks, from the beginning on: as much as may be.
func TestMostIsSpent(t *testing.T) {
	for _, b := range []bounds{{1, 1, 1}, {1, 8, 20}, {8, 8, 8}, {3, 7, 1000}, {1, greatest, greatest}} {
		x := spendAll(t, Start(b.most, b.burst), b, 50, func(int) int { return 0 })
		if x.spent != 50*b.most+b.burst {
			t.Error(b, x.spent)
		}
	}
}

// P11.4: with gaps at each tick just n times least is spent in n ticks, from an empty bucket at least on: as much as must be.
func TestLeastIsSpent(t *testing.T) {
	for _, b := range []bounds{{1, 1, 2}, {1, 8, 20}, {8, 8, 9}, {3, 7, 1000}, {1, greatest, greatest}, {greatest - 1, greatest, greatest}} {
		x := spendAll(t, api.Rate{Now: b.least}, b, 50, func(int) int { return 1 })
		if x.spent != 50*b.least || x.full {
			t.Error(b, x.spent, x.full)
		}
	}
}

// P11.4: what is saved up is burst at most, however long nothing is spent.
func TestBurstIsSaved(t *testing.T) {
	for _, b := range []bounds{{1, 1, 1}, {1, 8, 20}, {8, 8, 3}, {3, 7, 1000}, {1, 3, greatest}} {
		x := run{r: api.Rate{Now: b.most}, b: b}
		for range 500 {
			x.tick(t, 0)
			x.bound(t)
		}
		if want := min(500*b.most, b.burst); x.r.Left != want {
			t.Error(b, x.r)
		}
		x.spend(t, b.burst+1)
		if x.spent != 0 {
			t.Error(b, "more than burst is spent")
		}
	}
}

// P11.2: Now falls by halves to least while gaps are told of, and rises one by one to most while none are.
func TestFallAndRise(t *testing.T) {
	r := Start(40, 100)
	for _, want := range []int{20, 10, 5, 3, 3} {
		if r = Tick(r, 3, 40, 100, 2); r.Now != want {
			t.Error(r, want)
		}
	}
	for want := 4; want <= 45; want++ {
		if r = Tick(r, 3, 40, 100, 0); r.Now != min(want, 40) {
			t.Error(r, want)
		}
	}
}

// P11.2 and P11.3: the example of the chapter, and a spend behind it.
func TestExample(t *testing.T) {
	r := api.Rate{Now: 8, Left: 3}
	with, without := Tick(r, 1, 8, 20, 1), Tick(r, 1, 8, 20, 0)
	if with != (api.Rate{Now: 4, Left: 7}) || without != (api.Rate{Now: 8, Left: 11}) {
		t.Error(with, without)
	}
	if got, is := Spend(with, 5); got != (api.Rate{Now: 4, Left: 2}) || !is {
		t.Error(got, is)
	}
	if r != (api.Rate{Now: 8, Left: 3}) {
		t.Error("the bucket that was handed in is", r)
	}
}
