package vec

import (
	"fmt"
	"math"
	"math/big"
	"slices"
	"testing"
)

// row is a row written short.
func row(l ...int) []int { return l }

// pairs are two rows, what they are joined to, and which of them is below the other one.
var pairs = []struct {
	a, b, hi, lo []int
	ab, ba       bool
}{
	// No rows, nil and empty.
	{nil, nil, nil, nil, true, true},
	{nil, row(), nil, nil, true, true},
	{[]int{}, []int{}, nil, nil, true, true},
	{[]int{}, make([]int, 0, 4), nil, nil, true, true},
	// One of them empty.
	{nil, row(0), row(0), row(0), true, true},
	{nil, row(1), row(1), row(0), true, false},
	{nil, row(-1), row(0), row(-1), false, true},
	{[]int{}, row(0, 1), row(0, 1), row(0, 0), true, false},
	{[]int{}, row(0, -1), row(0, 0), row(0, -1), false, true},
	{nil, row(1, -1), row(1, 0), row(0, -1), false, false},
	{nil, row(0, 0, 0), row(0, 0, 0), row(0, 0, 0), true, true},
	// Rows of one length.
	{row(4), row(4), row(4), row(4), true, true},
	{row(4), row(5), row(5), row(4), true, false},
	{row(1, 2), row(1, 3), row(1, 3), row(1, 2), true, false},
	{row(1, 2), row(2, 2), row(2, 2), row(1, 2), true, false},
	{row(1, 2, 3), row(1, 2, 3), row(1, 2, 3), row(1, 2, 3), true, true},
	{row(1, 9, 3), row(2, 8, 4), row(2, 9, 4), row(1, 8, 3), false, false},
	{row(-1, -2), row(-2, -1), row(-1, -1), row(-2, -2), false, false},
	{row(-5), row(-4), row(-4), row(-5), true, false},
	{row(-5), row(0), row(0), row(-5), true, false},
	{row(-5), row(5), row(5), row(-5), true, false},
	// The second one longer, the first one longer.
	{row(1, 5), row(3, 2, 4), row(3, 5, 4), row(1, 2, 0), false, false},
	{row(1), row(1, 2, 3), row(1, 2, 3), row(1, 0, 0), true, false},
	{row(1), row(1, 0, 0), row(1, 0, 0), row(1, 0, 0), true, true},
	{row(3, 2, 4), row(1, 5), row(3, 5, 4), row(1, 2, 0), false, false},
	{row(1, 2, 3), row(1), row(1, 2, 3), row(1, 0, 0), false, true},
	// Below 0 where the other row has no place.
	{row(1), row(1, -2), row(1, 0), row(1, -2), false, true},
	{row(1), row(1, -2, 3), row(1, 0, 3), row(1, -2, 0), false, false},
	{row(1, -2, -3), row(1), row(1, 0, 0), row(1, -2, -3), true, false},
	{row(-4, -2), row(-5), row(-4, 0), row(-5, -2), false, false},
	{row(-7), row(-6, 0, 0, -1), row(-6, 0, 0, 0), row(-7, 0, 0, -1), false, false},
	// The greatest and the least int.
	{row(math.MinInt), row(math.MaxInt), row(math.MaxInt), row(math.MinInt), true, false},
	{row(math.MaxInt), row(math.MaxInt), row(math.MaxInt), row(math.MaxInt), true, true},
	{row(math.MinInt), row(math.MinInt), row(math.MinInt), row(math.MinInt), true, true},
	{row(math.MaxInt - 1), row(math.MaxInt), row(math.MaxInt), row(math.MaxInt - 1), true, false},
	{row(math.MinInt), row(math.MinInt + 1), row(math.MinInt + 1), row(math.MinInt), true, false},
	{nil, row(math.MaxInt, math.MinInt), row(math.MaxInt, 0), row(0, math.MinInt), false, false},
	{row(math.MinInt), nil, row(0), row(math.MinInt), true, false},
	{row(math.MaxInt), nil, row(math.MaxInt), row(0), false, true},
	{row(0, math.MinInt, 1), row(-1, 1<<62), row(0, 1<<62, 1), row(-1, math.MinInt, 0), false, false},
	// Numbers of more than 32 bits.
	{row(1 << 32), row(1), row(1 << 32), row(1), false, true},
	{row(-1 << 32), row(-1), row(-1), row(-1 << 32), true, false},
}

// P7.1: the greater one and the lesser one, whichever row is told first.
func TestMaxMin(t *testing.T) {
	for _, x := range pairs {
		for _, turn := range [][2][]int{{x.a, x.b}, {x.b, x.a}} {
			if got := Max(turn[0], turn[1]); !slices.Equal(got, x.hi) {
				t.Errorf("Max(%v, %v) = %v, want %v", turn[0], turn[1], got, x.hi)
			}
			if got := Min(turn[0], turn[1]); !slices.Equal(got, x.lo) {
				t.Errorf("Min(%v, %v) = %v, want %v", turn[0], turn[1], got, x.lo)
			}
		}
	}
}

// P7.1: is one row below the other, and the other way about?
func TestBelow(t *testing.T) {
	for _, x := range pairs {
		if got := Below(x.a, x.b); got != x.ab {
			t.Errorf("Below(%v, %v) = %t", x.a, x.b, got)
		}
		if got := Below(x.b, x.a); got != x.ba {
			t.Errorf("Below(%v, %v) = %t", x.b, x.a, got)
		}
	}
}

// P7.1: a place alone that is greater is enough, wherever it is.
func TestBelowButForOne(t *testing.T) {
	for many := 1; many <= 6; many++ {
		base := make([]int, many)
		for i := range base {
			base[i] = 3*i - 5
		}
		if !Below(base, base) {
			t.Errorf("%v is not below itself", base)
		}
		for i := range base {
			above := slices.Clone(base)
			above[i]++
			if Below(above, base) || !Below(base, above) {
				t.Errorf("%v, %v: place %d", base, above, i)
			}
		}
	}
	// And where the other row doesn't have that place.
	for many := range 5 {
		for i := many; i < 6; i++ {
			short := make([]int, many)
			long := make([]int, 6)
			if !Below(short, long) || !Below(long, short) {
				t.Errorf("%v, %v: zeros are not below each other", short, long)
			}
			long[i] = 1
			if Below(long, short) || !Below(short, long) {
				t.Errorf("%v, %v: place %d is greater", short, long, i)
			}
			long[i] = -1
			if Below(short, long) || !Below(long, short) {
				t.Errorf("%v, %v: place %d is less", short, long, i)
			}
		}
	}
}

// P7.1: the rows are as long as the longer one, neither longer nor shorter.
func TestLengths(t *testing.T) {
	for n := range 70 {
		for m := range 70 {
			a, b := make([]int, n), make([]int, m)
			if hi, lo := Max(a, b), Min(a, b); len(hi) != max(n, m) || len(lo) != max(n, m) {
				t.Fatalf("rows of %d and %d: %d and %d", n, m, len(hi), len(lo))
			}
		}
	}
}

// P7.2: the least of what rows have at a place.
func TestLeast(t *testing.T) {
	three := [][]int{{3, 4}, {5, 1, 7}, {4, 2}}
	for _, x := range []struct {
		l    [][]int
		i    int
		want int
	}{
		// No rows.
		{nil, 0, 0}, {nil, 1, 0}, {nil, -1, 0}, {nil, math.MaxInt, 0}, {nil, math.MinInt, 0}, {[][]int{}, 0, 0}, {[][]int{}, -1, 0},
		// One.
		{[][]int{{9, 8}}, 0, 9}, {[][]int{{9, 8}}, 1, 8}, {[][]int{{9, 8}}, 2, 0}, {[][]int{{9, 8}}, -1, 0},
		{[][]int{{-3}}, 0, -3}, {[][]int{{-3}}, 1, 0}, {[][]int{{-3}}, -1, 0}, {[][]int{nil}, 0, 0}, {[][]int{{}}, 0, 0}, {[][]int{{}}, -1, 0},
		// Several: places that all of them have, that some have, that none has.
		{three, 0, 3}, {three, 1, 1}, {three, 2, 0}, {three, 3, 0}, {three, 4, 0},
		{three, -1, 0}, {three, -2, 0}, {three, -3, 0}, {three, 1 << 32, 0}, {three, 1 << 62, 0}, {three, math.MaxInt, 0}, {three, math.MinInt, 0}, {three, math.MinInt + 1, 0},
		{[][]int{{1, 5}, {3, 2, 4}}, 1, 2}, {[][]int{{1, 5}, {3, 2, 4}}, 2, 0},
		// The least one first, last, between, and twice.
		{[][]int{{1}, {2}, {3}}, 0, 1}, {[][]int{{3}, {2}, {1}}, 0, 1}, {[][]int{{3}, {1}, {2}}, 0, 1}, {[][]int{{1}, {2}, {1}}, 0, 1},
		// A row without the place, first, last, between: 0 counts there, above what is below 0.
		{[][]int{nil, {2}, {3}}, 0, 0}, {[][]int{{2}, {3}, nil}, 0, 0}, {[][]int{{2}, {}, {3}}, 0, 0},
		{[][]int{nil, {-2}, {3}}, 0, -2}, {[][]int{{-2}, {3}, nil}, 0, -2}, {[][]int{{-2}, {}, {-3}}, 0, -3},
		{[][]int{{1, -2}, {1}}, 1, -2}, {[][]int{{1}, {1, -2}}, 1, -2}, {[][]int{{1}, {1, 2}}, 1, 0}, {[][]int{{1, 2}, {1}}, 1, 0},
		// The least is below 0, and the edges.
		{[][]int{{4}, {-1}, {0}}, 0, -1}, {[][]int{{-4}, {-1}}, 0, -4},
		{[][]int{{math.MaxInt}, {math.MaxInt}}, 0, math.MaxInt}, {[][]int{{math.MaxInt}, {math.MaxInt - 1}}, 0, math.MaxInt - 1},
		{[][]int{{math.MaxInt}, {math.MinInt}}, 0, math.MinInt}, {[][]int{{math.MinInt}, {math.MinInt + 1}}, 0, math.MinInt}, {[][]int{{math.MaxInt}, {}}, 0, 0}, {[][]int{{math.MinInt}, {}}, 0, math.MinInt},
		{[][]int{{1 << 32}, {1<<32 + 1}}, 0, 1 << 32},
	} {
		if got := Least(x.l, x.i); got != x.want {
			t.Errorf("Least(%v, %d) = %d, want %d", x.l, x.i, got, x.want)
		}
	}
}

// P7.2: the sum of all.
func TestSum(t *testing.T) {
	for _, x := range []struct {
		a    []int
		want int
	}{
		{nil, 0}, {row(), 0}, {row(0), 0}, {row(7), 7}, {row(-7), -7},
		{row(1, 2, 3), 6}, {row(1, -2, 5), 4}, {row(0, 0, 9), 9}, {row(9, 0, 0), 9}, {row(5, -5), 0}, {row(4, 4, 4, 4), 16},
		{row(1<<32, 1), 1<<32 + 1}, {row(math.MaxInt), math.MaxInt}, {row(math.MinInt), math.MinInt},
		{row(math.MaxInt-1, 1), math.MaxInt}, {row(math.MinInt+1, -1), math.MinInt}, {row(math.MaxInt, math.MinInt), -1},
		// It goes round.
		{row(math.MaxInt, 1), math.MinInt}, {row(1, math.MaxInt), math.MinInt}, {row(math.MinInt, -1), math.MaxInt},
		{row(math.MaxInt, math.MaxInt), -2}, {row(math.MinInt, math.MinInt), 0}, {row(math.MaxInt, math.MaxInt, 2), 0},
		{row(1<<62, 1<<62), math.MinInt}, {row(1<<62, 1<<62, 1<<62, 1<<62), 0}, {row(math.MaxInt, 1, math.MinInt, 5), 5},
	} {
		if got := Sum(x.a); got != x.want {
			t.Errorf("Sum(%v) = %d, want %d", x.a, got, x.want)
		}
	}
}

// P7.2: it goes round at 2^64: what is told differs from the sum of any size by whole rounds.
func TestSumGoesRound(t *testing.T) {
	edges := row(0, 1, -1, 1<<62, -1<<62, math.MaxInt, math.MinInt)
	round := new(big.Int).Lsh(big.NewInt(1), 64)
	for _, x := range edges {
		for _, y := range edges {
			for _, z := range edges {
				whole := new(big.Int).Add(big.NewInt(int64(x)), big.NewInt(int64(y)))
				whole.Add(whole, big.NewInt(int64(z)))
				off := whole.Sub(whole, big.NewInt(int64(Sum(row(x, y, z)))))
				if off.Mod(off, round).Sign() != 0 {
					t.Errorf("Sum of %d, %d, %d = %d", x, y, z, Sum(row(x, y, z)))
				}
			}
		}
	}
}

// small are all rows of up to so many places, of these numbers.
func small(places int, numbers ...int) [][]int {
	out := [][]int{nil}
	last := out
	for range places {
		var next [][]int
		for _, a := range last {
			for _, n := range numbers {
				next = append(next, append(slices.Clone(a), n))
			}
		}
		out = append(out, next...)
		last = next
	}
	return out
}

// under: is no place of a greater than b's? It is told by another way than Below's: both rows are made as long as the longer one.
func under(a, b []int) bool {
	a, b = slices.Clone(a), slices.Clone(b)
	for len(a) < len(b) {
		a = append(a, 0)
	}
	for len(b) < len(a) {
		b = append(b, 0)
	}
	greater := 0
	for i, n := range a {
		if n > b[i] {
			greater++
		}
	}
	return greater == 0
}

// P7.1: of all small rows, Below is what it is.
func TestBelowOfSmall(t *testing.T) {
	rows := small(3, -1, 0, 1)
	for _, a := range rows {
		for _, b := range rows {
			if Below(a, b) != under(a, b) {
				t.Errorf("Below(%v, %v) = %t", a, b, Below(a, b))
			}
		}
	}
}

// P7.3: both are below Max, and each row that both are below has Max below it; likewise Min.
func TestMaxIsLeastMinIsGreatest(t *testing.T) {
	rows := small(3, -1, 0, 1)
	for _, a := range rows {
		for _, b := range rows {
			hi, lo := Max(a, b), Min(a, b)
			if !Below(a, hi) || !Below(b, hi) || !under(a, hi) || !under(b, hi) {
				t.Errorf("%v, %v: not below Max, %v", a, b, hi)
			}
			if !Below(lo, a) || !Below(lo, b) || !under(lo, a) || !under(lo, b) {
				t.Errorf("%v, %v: Min is not below, %v", a, b, lo)
			}
			for _, c := range rows {
				if under(a, c) && under(b, c) && !(Below(hi, c) && under(hi, c)) {
					t.Fatalf("%v, %v: both are below %v, and Max, %v, isn't", a, b, c, hi)
				}
				if under(c, a) && under(c, b) && !(Below(c, lo) && under(c, lo)) {
					t.Fatalf("%v, %v: %v is below both, and not below Min, %v", a, b, c, lo)
				}
			}
		}
	}
}

// P7.3: where rows only rise, Least never falls, at any place.
func TestLeastNeverFalls(t *testing.T) {
	rows := small(2, -1, 0, 2)
	for _, a := range rows {
		for _, b := range rows {
			for _, a2 := range rows {
				for _, b2 := range rows {
					if !under(a, a2) || !under(b, b2) {
						continue
					}
					for i := -1; i <= 3; i++ {
						if was, now := Least([][]int{a, b}, i), Least([][]int{a2, b2}, i); now < was {
							t.Fatalf("at %d: %d of %v, %v, and %d of %v, %v", i, was, a, b, now, a2, b2)
						}
					}
				}
			}
		}
	}
}

// P7.3: rows that rise by Max, step by step, each by what comes from afar.
func TestLeastOfRisingRows(t *testing.T) {
	l := [][]int{nil, nil, nil}
	for step := range 200 {
		was := []int{Least(l, 0), Least(l, 1), Least(l, 2), Least(l, 3)}
		who := step % 3
		l[who] = Max(l[who], row(step*7%31, step*11%23, step*5%17)[:1+step%3])
		for i, n := range was {
			if Least(l, i) < n {
				t.Fatalf("step %d, place %d: %d, was %d", step, i, Least(l, i), n)
			}
		}
	}
	if Least(l, 0) != 30 {
		t.Errorf("%v", l)
	}
}

// roomy is a row with numbers behind its end, and all of these.
func roomy(a []int) (part, whole []int) {
	whole = append(slices.Clone(a), 77, 78, 79, 80)
	return whole[:len(a)], whole
}

// bodies are rows of which one, the other one, both and neither have places that count.
var bodies = [][2][]int{
	{nil, nil}, {nil, row(1, -2)}, {row(1, -2), nil},
	{row(1, 2, 3), row(3, 2, 1)}, {row(1, 2, 3), row(1, 2, 3)}, {row(4, 5), row(1, 2, 3)}, {row(1, 2, 3), row(4)}, {row(9, 9, 9), row(1)},
}

// P7.1, R3: what is handed in is not written into, not even behind its end, nor by whoever has the answer.
func TestArgumentsStay(t *testing.T) {
	for _, x := range bodies {
		a, allA := roomy(x[0])
		b, allB := roomy(x[1])
		all := [][]int{a, b, nil, row(81)}
		l := all[:3]
		was := fmt.Sprint(allA, allB, all)
		hi, lo := Max(a, b), Min(a, b)
		Below(a, b)
		for i := -1; i <= 4; i++ {
			Least(l, i)
		}
		Sum(a)
		if now := fmt.Sprint(allA, allB, all); now != was {
			t.Errorf("written into: %s, was %s", now, was)
		}
		for _, out := range [][]int{hi, lo} {
			out = out[:cap(out)]
			for i := range out {
				out[i] = -99
			}
		}
		if now := fmt.Sprint(allA, allB, all); now != was {
			t.Errorf("the answer shares memory with what was handed in: %s, was %s", now, was)
		}
	}
}

// P7.1, R3: what was given back stays as it is, whatever becomes of what was handed in.
func TestAnswersStay(t *testing.T) {
	for _, x := range bodies {
		a, allA := roomy(x[0])
		b, allB := roomy(x[1])
		hi, lo := Max(a, b), Min(a, b)
		again := Max(a, b)
		was := fmt.Sprint(hi, lo)
		clear(allA)
		clear(allB)
		clear(again)
		if now := fmt.Sprint(hi, lo); now != was {
			t.Errorf("%s, was %s", now, was)
		}
	}
}
