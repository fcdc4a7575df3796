package lane

import (
	"bytes"
	"fmt"
	"math"
	"slices"
	"strings"
	"testing"

	"precentor/api"
	"precentor/frag"
)

const far = 1 << 62

// message, order and token are entries.
func message(seq int, b string) api.Entry {
	return api.Entry{Kind: api.IData, Seq: seq, B: []byte(b)}
}

func order(seq int, hand bool, l ...int) api.Entry {
	return api.Entry{Kind: api.IOrder, Seq: seq, L: l, Hand: hand}
}

func token(seq int) api.Entry {
	return api.Entry{Kind: api.IToken, Seq: seq}
}

// lane is one of entries, with nothing under way.
func lane(l ...api.Entry) api.Lane {
	return api.Lane{L: l}
}

// under is a lane with a message under way behind its entries.
func under(seq, total, got int, b string, l ...api.Entry) api.Lane {
	return api.Lane{L: l, Part: api.Part{Seq: seq, Total: total, Got: got, B: []byte(b)}}
}

// piece, orders and turn are items.
func piece(seq, index, total int, b string) api.Item {
	return api.Item{Kind: api.IData, Seq: seq, Epoch: 3, Index: index, Total: total, Body: []byte(b)}
}

func orders(seq, index int, l ...int) api.Item {
	return api.Item{Kind: api.IOrder, Seq: seq, Epoch: 3, Index: index, L: l}
}

func turn(seq int) api.Item {
	return api.Item{Kind: api.IToken, Seq: seq, Epoch: 3}
}

// others are items of every other kind, such as may be.
func others(seq int) []api.Item {
	return []api.Item{
		{Kind: api.IFlush, Seq: seq},
		{Kind: api.IFlush, Seq: seq, Epoch: 1, Index: 1},
		{Kind: api.IAck, Seq: seq},
		{Kind: api.IAck, Seq: seq, Count: far},
		{Kind: api.IInstall, Seq: seq, L: []int{0, 0}},
		{Kind: api.IInstall, Seq: seq, Epoch: 9, L: []int{3, 4, 5}},
	}
}

// toldEntry is an entry as a text: that of another one only if they are the same.
func toldEntry(e api.Entry) string {
	return fmt.Sprintf("(%d %d %x %v %t)", e.Kind, e.Seq, e.B, e.L, e.Hand)
}

// toldLane is a lane as a text: another way than Same to hold two against each other.
func toldLane(l api.Lane) string {
	var out strings.Builder
	for _, e := range l.L {
		out.WriteString(toldEntry(e))
	}
	return out.String() + fmt.Sprintf(" under way %d %d %d %x", l.Part.Seq, l.Part.Total, l.Part.Got, l.Part.B)
}

// nothing is no entry, as a text.
var nothing = toldEntry(api.Entry{})

// copied is a lane with memory of its own.
func copied(l api.Lane) api.Lane {
	l.L = slices.Clone(l.L)
	for i := range l.L {
		l.L[i].B, l.L[i].L = bytes.Clone(l.L[i].B), slices.Clone(l.L[i].L)
	}
	l.Part.B = bytes.Clone(l.Part.B)
	return l
}

// turned is a lane that is turned, and the one that it was of stays as it is.
func turned(l api.Lane, turn func(l *api.Lane)) api.Lane {
	l = copied(l)
	turn(&l)
	return l
}

// row is a lane whose entries are of the kinds that a text's letters tell: m a message, o an order, h an order that hands on, t a token; the first one's number is 3, and each is 2 above the one ahead.
func row(kinds string) api.Lane {
	var l api.Lane
	for i, c := range kinds {
		seq := 3 + 2*i
		switch c {
		case 'm':
			l.L = append(l.L, message(seq, fmt.Sprint("m", i)))
		case 'o':
			l.L = append(l.L, order(seq, false, i, 63))
		case 'h':
			l.L = append(l.L, order(seq, true, 0, i))
		case 't':
			l.L = append(l.L, token(seq))
		}
	}
	return l
}

// rows are all texts of the letters, of none up to so many.
func rows(most int) []string {
	all, last := []string{""}, []string{""}
	for range most {
		var next []string
		for _, s := range last {
			for _, c := range "moht" {
				next = append(next, s+string(c))
			}
		}
		all, last = append(all, next...), next
	}
	return all
}

// good are right lanes, no two the same.
func good() []api.Lane {
	l := []api.Lane{
		lane(message(1, "")), lane(message(1, "a")), lane(message(math.MaxInt, "a")), lane(order(1, false)), lane(order(1, true)), lane(order(7, true, 0, 63, 0)), lane(token(1)), lane(token(far)),
		lane(message(1, strings.Repeat("b", 40000))), lane(order(1, false, make([]int, 200)...)), lane(token(1), token(2), token(math.MaxInt)),
		under(1, 2, 1, ""), under(1, 2, 1, "a"), under(far, 32, 31, "abc"), under(math.MaxInt, 32, 1, ""), under(9, 3, 2, strings.Repeat("c", 5000)),
		under(4, 2, 1, "a", message(3, "x")), under(4, 2, 1, "a", order(1, true, 5), token(3)), under(math.MaxInt, 5, 3, "", token(math.MaxInt-1)),
	}
	for _, s := range rows(3) {
		l = append(l, row(s))
		m := row(s)
		m.Part = api.Part{Seq: 40, Total: 3, Got: 1, B: []byte("u")}
		l = append(l, m)
	}
	return l
}

// unfit are entries that may not be, each for one thing alone, whatever the number is.
func unfit(seq int) []api.Entry {
	return []api.Entry{
		{Seq: seq},
		{Kind: -1, Seq: seq},
		{Kind: api.IFlush, Seq: seq},
		{Kind: api.IAck, Seq: seq},
		{Kind: api.IInstall, Seq: seq},
		{Kind: 7, Seq: seq},
		{Kind: api.IData + 256, Seq: seq},
		{Kind: math.MaxInt, Seq: seq},
		{Kind: math.MinInt, Seq: seq},
		{Kind: api.IData, Seq: seq, B: []byte("a"), L: []int{0}},
		{Kind: api.IData, Seq: seq, L: []int{63, 1}},
		{Kind: api.IData, Seq: seq, B: []byte("a"), Hand: true},
		{Kind: api.IData, Seq: seq, Hand: true},
		{Kind: api.IOrder, Seq: seq, B: []byte{0}},
		{Kind: api.IOrder, Seq: seq, B: []byte("a"), L: []int{1}, Hand: true},
		{Kind: api.IOrder, Seq: seq, L: []int{-1}},
		{Kind: api.IOrder, Seq: seq, L: []int{64}},
		{Kind: api.IOrder, Seq: seq, L: []int{0, 64, 1}},
		{Kind: api.IOrder, Seq: seq, L: []int{0, 1, -1}, Hand: true},
		{Kind: api.IOrder, Seq: seq, L: []int{math.MaxInt}},
		{Kind: api.IOrder, Seq: seq, L: []int{math.MinInt, 1}},
		{Kind: api.IOrder, Seq: seq, L: []int{256}},
		{Kind: api.IToken, Seq: seq, B: []byte{0}},
		{Kind: api.IToken, Seq: seq, L: []int{0}},
		{Kind: api.IToken, Seq: seq, Hand: true},
	}
}

// P15.1: lanes that are right: of nothing, with each kind of entry, with a message under way.
func TestRight(t *testing.T) {
	for _, l := range append(good(), api.Lane{}, api.Lane{L: []api.Entry{}, Part: api.Part{B: []byte{}}}) {
		if !Right(l) {
			t.Error(toldLane(l))
		}
	}
	// a list without elements is none
	if !Right(lane(api.Entry{Kind: api.IData, Seq: 1, L: []int{}}, api.Entry{Kind: api.IOrder, Seq: 2, B: []byte{}, L: []int{}}, api.Entry{Kind: api.IToken, Seq: 3, B: []byte{}, L: []int{}})) {
		t.Error("empty lists")
	}
}

// P15.1: a lane with an entry that may not be isn't right, wherever that stands.
func TestRightEntries(t *testing.T) {
	for _, l := range good() {
		for at, was := range l.L {
			for _, e := range unfit(was.Seq) {
				if m := turned(l, func(m *api.Lane) { m.L[at] = e }); Right(m) {
					t.Error(toldLane(m))
				}
			}
			for _, seq := range []int{0, -1, -2, -256, math.MinInt} {
				if m := turned(l, func(m *api.Lane) { m.L[at].Seq = seq }); Right(m) {
					t.Error(toldLane(m))
				}
			}
		}
	}
}

// P15.1: an order names each member from 0 to 63, and none besides.
func TestRightSenders(t *testing.T) {
	for n := -70; n <= 200; n++ {
		for _, l := range [][]int{{n}, {0, n}, {n, 63}, {5, n, 5}} {
			if Right(lane(order(1, false, l...))) != (n >= 0 && n <= 63) {
				t.Error(l)
			}
		}
	}
}

// P15.1: entries' numbers rise, from 1 at least; all rows of three small numbers.
func TestRightNumbers(t *testing.T) {
	for a := -1; a <= 4; a++ {
		for b := -1; b <= 4; b++ {
			for c := -1; c <= 4; c++ {
				want := 1 <= a && a < b && b < c
				for _, l := range []api.Lane{lane(token(a), token(b), token(c)), lane(message(a, "x"), order(b, true, 1), message(c, "")), lane(order(a, false), message(b, "y"), token(c))} {
					if Right(l) != want {
						t.Errorf("numbers %d, %d, %d: %t", a, b, c, !want)
					}
				}
			}
		}
	}
	for _, l := range []api.Lane{lane(token(math.MaxInt), token(math.MinInt)), lane(token(math.MaxInt), token(1)), lane(token(far), token(far)), lane(token(far+1), token(far)), lane(token(math.MaxInt), token(math.MaxInt))} {
		if Right(l) {
			t.Error(toldLane(l))
		}
	}
}

// P15.1: of the message under way Got is from 1 to Total less 1, Total 32 at most, and its number above all entries'; or all is nothing.
func TestRightUnderWay(t *testing.T) {
	ends := map[int][]api.Entry{0: nil, 1: {token(1)}, 3: {message(2, "a"), order(3, false, 1)}}
	for last, l := range ends {
		for got := -2; got <= 35; got++ {
			for total := -2; total <= 35; total++ {
				for seq := -1; seq <= 6; seq++ {
					for _, b := range []string{"", "a"} {
						none := got == 0 && total == 0 && seq == 0 && b == ""
						some := got >= 1 && got <= total-1 && total <= 32 && seq >= last+1
						if m := under(seq, total, got, b, l...); Right(m) != (none || some) {
							t.Errorf("%s: %t", toldLane(m), Right(m))
						}
					}
				}
			}
		}
	}
}

// P15.1, R5: what is only compared doesn't go round.
func TestRightFarNumbers(t *testing.T) {
	for _, l := range []api.Lane{
		under(1, math.MinInt, 1, ""), under(1, math.MinInt, math.MaxInt, ""), under(1, 2, math.MinInt, ""), under(1, math.MaxInt, 1, ""), under(1, math.MaxInt, math.MaxInt-1, ""), under(1, 258, 1, ""), under(1, 33, 32, ""), under(1, 32, 32, ""), under(1, 1, 1, ""),
		under(math.MinInt, 2, 1, ""), under(math.MinInt, 2, 1, "", token(math.MaxInt)), under(math.MaxInt, 2, 1, "", token(math.MaxInt)), under(far, 2, 1, "", token(far)),
		under(math.MaxInt, 0, 0, ""), under(0, math.MaxInt, 0, ""), under(0, math.MinInt, 0, ""), under(math.MinInt, 0, 0, ""), under(0, 0, 0, "\x00"), under(0, 0, 0, "a", token(1)), under(2, 0, 0, "", token(1)), under(0, 2, 0, "", token(1)),
	} {
		if Right(l) {
			t.Error(toldLane(l))
		}
	}
}

// checkSame: are two lanes the same, or not, as they are asked for, and the other way round?
func checkSame(t *testing.T, a, b api.Lane, want bool) {
	t.Helper()
	if ab, ba := Same(a, b), Same(b, a); ab != want || ba != want {
		t.Errorf("Same of %s and %s: %t, and %t the other way round", toldLane(a), toldLane(b), ab, ba)
	}
}

// P15.1: a lane is the same as itself and as a copy of it, and as no other one.
func TestSameOfAll(t *testing.T) {
	l := good()
	for i, a := range l {
		checkSame(t, a, a, true)
		for k, b := range l {
			checkSame(t, a, copied(b), i == k)
		}
	}
}

// P15.1: lanes that differ in one part alone are not the same; be they right or not.
func TestSameButForOne(t *testing.T) {
	whole := api.Lane{L: []api.Entry{{Kind: 1, Seq: 2, B: []byte("ab"), L: []int{1, 2}, Hand: true}, {Kind: 2, Seq: 3, B: []byte("c"), L: []int{0}}}, Part: api.Part{Seq: 5, Total: 4, Got: 2, B: []byte("xy")}}
	for i, turn := range []func(l *api.Lane){
		func(l *api.Lane) { l.L = l.L[:1] },
		func(l *api.Lane) { l.L = l.L[1:] },
		func(l *api.Lane) { l.L = nil },
		func(l *api.Lane) { l.L = append(l.L, api.Entry{}) },
		func(l *api.Lane) { l.L[0], l.L[1] = l.L[1], l.L[0] },
		func(l *api.Lane) { l.L[0].Kind = 3 },
		func(l *api.Lane) { l.L[1].Kind = 258 },
		func(l *api.Lane) { l.L[0].Seq = 1 },
		func(l *api.Lane) { l.L[1].Seq += 1 << 32 },
		func(l *api.Lane) { l.L[0].B[0] = 'x' },
		func(l *api.Lane) { l.L[0].B[1] = 'x' },
		func(l *api.Lane) { l.L[0].B = l.L[0].B[:1] },
		func(l *api.Lane) { l.L[1].B = nil },
		func(l *api.Lane) { l.L[1].B = append(l.L[1].B, 0) },
		func(l *api.Lane) { l.L[0].L[0] = 2 },
		func(l *api.Lane) { l.L[0].L[1] = 1 },
		func(l *api.Lane) { l.L[0].L = []int{2, 1} },
		func(l *api.Lane) { l.L[1].L = nil },
		func(l *api.Lane) { l.L[1].L = []int{0, 0} },
		func(l *api.Lane) { l.L[1].L[0] = 256 },
		func(l *api.Lane) { l.L[0].Hand = false },
		func(l *api.Lane) { l.L[1].Hand = true },
		func(l *api.Lane) { l.Part.Seq = 6 },
		func(l *api.Lane) { l.Part.Total = 5 },
		func(l *api.Lane) { l.Part.Got = 3 },
		func(l *api.Lane) { l.Part.B[1] = 'z' },
		func(l *api.Lane) { l.Part.B = nil },
		func(l *api.Lane) { l.Part.B = append(l.Part.B, 0) },
		func(l *api.Lane) { l.Part = api.Part{} },
	} {
		if m := turned(whole, turn); Same(whole, m) || Same(m, whole) {
			t.Error(i, toldLane(m))
		}
	}
	checkSame(t, whole, copied(whole), true)
}

// P15.1, R3: a list without elements may be nil, be it the entries, a list of one, or the bytes under way.
func TestSameOfNothing(t *testing.T) {
	checkSame(t, api.Lane{}, api.Lane{L: []api.Entry{}, Part: api.Part{B: []byte{}}}, true)
	checkSame(t, lane(token(1)), lane(api.Entry{Kind: api.IToken, Seq: 1, B: []byte{}, L: []int{}}), true)
	checkSame(t, api.Lane{}, lane(api.Entry{}), false)
	checkSame(t, lane(api.Entry{}), lane(api.Entry{}, api.Entry{}), false)
	checkSame(t, api.Lane{}, under(0, 0, 0, "\x00"), false)
}

// checkTold: is that entry told, or none?
func checkTold(t *testing.T, what string, l api.Lane, at int, tell func(api.Lane) (api.Entry, bool)) {
	t.Helper()
	want, is := nothing, at >= 0
	if is {
		want = toldEntry(l.L[at])
	}
	if e, got := tell(l); toldEntry(e) != want || got != is {
		t.Errorf("%s of %s: %s, %t", what, toldLane(l), toldEntry(e), got)
	}
}

// P15.1: the first entry, the first message, the first order or token, and how many messages there are, of all rows of up to five entries; with a message under way, which is none yet, and without.
func TestFirstOfEach(t *testing.T) {
	for _, s := range rows(5) {
		for _, p := range []api.Part{{}, {Seq: 50, Total: 2, Got: 1, B: []byte("m")}} {
			l := row(s)
			l.Part = p
			first := 0
			if s == "" {
				first = -1
			}
			checkTold(t, "First", l, first, First)
			checkTold(t, "Message", l, strings.IndexByte(s, 'm'), Message)
			checkTold(t, "Control", l, strings.IndexAny(s, "oht"), Control)
			if n := Many(l); n != strings.Count(s, "m") {
				t.Errorf("Many of %s: %d", s, n)
			}
		}
	}
}

// P15.1: the same, each case written out.
func TestFirstWrittenOut(t *testing.T) {
	mixed := lane(order(2, true, 1, 0), message(5, "ab"), token(6), message(9, "c"))
	for _, x := range []struct {
		l                       api.Lane
		first, message, control string
		many                    int
	}{
		{api.Lane{}, nothing, nothing, nothing, 0},
		{under(4, 2, 1, "a"), nothing, nothing, nothing, 0},
		{lane(message(3, "x"), message(4, "y")), "(1 3 78 [] false)", "(1 3 78 [] false)", nothing, 2},
		{lane(order(3, false, 7), order(4, true, 8)), "(2 3  [7] false)", nothing, "(2 3  [7] false)", 0},
		{lane(token(8), token(9)), "(3 8  [] false)", nothing, "(3 8  [] false)", 0},
		{mixed, "(2 2  [1 0] true)", "(1 5 6162 [] false)", "(2 2  [1 0] true)", 2},
		{lane(mixed.L[1:]...), "(1 5 6162 [] false)", "(1 5 6162 [] false)", "(3 6  [] false)", 2},
		{lane(mixed.L[2:]...), "(3 6  [] false)", "(1 9 63 [] false)", "(3 6  [] false)", 1},
	} {
		f, isF := First(x.l)
		m, isM := Message(x.l)
		c, isC := Control(x.l)
		if toldEntry(f) != x.first || toldEntry(m) != x.message || toldEntry(c) != x.control || Many(x.l) != x.many {
			t.Errorf("%s: %s, %s, %s, %d", toldLane(x.l), toldEntry(f), toldEntry(m), toldEntry(c), Many(x.l))
		}
		if isF != (x.first != nothing) || isM != (x.message != nothing) || isC != (x.control != nothing) {
			t.Errorf("%s: %t, %t, %t", toldLane(x.l), isF, isM, isC)
		}
	}
}

// checkRead: is what is read the lane that is wanted, with that code? What comes is right, and what is handed in stays.
func checkRead(t *testing.T, l api.Lane, it api.Item, want api.Lane, code api.Errno) {
	t.Helper()
	was := toldLane(l)
	got, e := Read(l, it)
	if toldLane(got) != toldLane(want) || e != code {
		t.Errorf("Read of %s, %v: %s, %d, not %s, %d", was, it, toldLane(got), e, toldLane(want), code)
	}
	if toldLane(l) != was || !Right(got) {
		t.Errorf("Read of %s, %v: it is %s now; is what came right: %t", was, it, toldLane(l), Right(got))
	}
}

// P15.2: each kind of item, each case written out.
func TestRead(t *testing.T) {
	a := message(2, "a")
	for _, x := range []struct {
		l    api.Lane
		it   api.Item
		want api.Lane
	}{
		{api.Lane{}, piece(1, 0, 1, "a"), lane(message(1, "a"))},
		{api.Lane{}, piece(7, 0, 1, ""), lane(message(7, ""))},
		{api.Lane{}, piece(far, 0, 1, "zz"), lane(message(far, "zz"))},
		{api.Lane{}, piece(1, 0, 2, "a"), under(1, 2, 1, "a")},
		{api.Lane{}, piece(4, 0, 32, ""), under(4, 32, 1, "")},
		{api.Lane{}, orders(1, 0, 5), lane(order(1, false, 5))},
		{api.Lane{}, orders(6, 1, 63, 0, 63), lane(order(6, true, 63, 0, 63))},
		{api.Lane{}, turn(1), lane(token(1))},
		{api.Lane{}, turn(far), lane(token(far))},
		{lane(a), piece(3, 0, 1, "b"), lane(a, message(3, "b"))},
		{lane(a), piece(9, 0, 2, "b"), under(9, 2, 1, "b", a)},
		{lane(a), orders(3, 1, 0), lane(a, order(3, true, 0))},
		{lane(a), orders(30, 0, 0, 1), lane(a, order(30, false, 0, 1))},
		{lane(a), turn(3), lane(a, token(3))},
		{lane(a, token(3)), turn(4), lane(a, token(3), token(4))},
		{under(3, 3, 1, "b", a), piece(4, 1, 3, "c"), under(3, 3, 2, "bc", a)},
		{under(3, 3, 2, "bc", a), piece(5, 2, 3, "d"), lane(a, message(3, "bcd"))},
		{under(3, 3, 2, "bc", a), piece(99, 2, 3, ""), lane(a, message(3, "bc"))},
		{under(3, 2, 1, ""), piece(4, 1, 2, ""), lane(message(3, ""))},
	} {
		checkRead(t, x.l, x.it, x.want, api.OK)
	}
}

// P15.2: the number is one below, at, and one above the lane's last one: where it has nothing, entries, a message under way, and both.
func TestReadNumbers(t *testing.T) {
	for _, x := range []struct {
		l     api.Lane
		last  int
		index int
		total int
	}{
		{lane(token(1)), 1, 0, 1},
		{lane(message(2, "a")), 2, 0, 1},
		{lane(message(2, "a"), order(7, true, 1)), 7, 0, 3},
		{lane(token(3), message(far-1, "")), far - 1, 0, 1},
		{under(4, 3, 1, "b"), 4, 1, 3},
		{under(4, 3, 2, "b", token(2)), 4, 2, 3},
		{under(far-1, 2, 1, "b", token(2)), far - 1, 1, 2},
	} {
		underWay := x.l.Part.Got > 0
		for _, seq := range []int{1, x.last - 1, x.last, x.last + 1} {
			for _, it := range []api.Item{piece(seq, x.index, x.total, "n"), orders(seq, 1, 2), turn(seq)} {
				want := api.ErrForm
				if seq > x.last && (it.Kind == api.IData || !underWay) {
					want = api.OK
				}
				got, code := Read(x.l, it)
				if code != want || Same(got, x.l) != (want != api.OK) {
					t.Errorf("Read of %s, %v: %s, %d", toldLane(x.l), it, toldLane(got), code)
				}
			}
		}
	}
	// the least number there may be is above that of a lane of nothing
	for _, it := range []api.Item{piece(1, 0, 1, "n"), orders(1, 1, 2), turn(1)} {
		if _, code := Read(api.Lane{}, it); code != api.OK {
			t.Error(it, code)
		}
	}
}

// P15.2: behind a message's first piece it is that one's number above which the others' must be, and nothing else.
func TestReadNumbersUnderWay(t *testing.T) {
	l := under(4, 5, 2, "ab", token(2))
	for seq := 1; seq <= 9; seq++ {
		if seq <= 4 {
			checkRead(t, l, piece(seq, 2, 5, "c"), l, api.ErrForm)
		} else {
			checkRead(t, l, piece(seq, 2, 5, "c"), under(4, 5, 3, "abc", token(2)), api.OK)
		}
	}
}

// P15.2, P15.5: a message in one piece, in two, up to MaxFrag: nothing is told ahead of the last one; then it is whole, with its first piece's number, whatever numbers lie between.
func TestReadMessages(t *testing.T) {
	for total := 1; total <= api.MaxFrag; total++ {
		for _, step := range []int{1, 3} {
			l, b := lane(order(4, true, 1)), ""
			for i := range total {
				if n := len(l.L); n != 1 || Done(l, 99) != 3 {
					t.Fatalf("%d pieces of %d: %s", i, total, toldLane(l))
				}
				part := strings.Repeat(string(rune('a'+i%26)), i*37%1025)
				b += part
				it := piece(6+i*step, i, total, part)
				it.Epoch = i
				var code api.Errno
				if l, code = Read(l, it); code != api.OK || !Right(l) {
					t.Fatalf("piece %d of %d: %d, %s", i, total, code, toldLane(l))
				}
			}
			if want := lane(order(4, true, 1), message(6, b)); toldLane(l) != toldLane(want) {
				t.Errorf("%d pieces: %s", total, toldLane(l))
			}
		}
	}
}

// P15.2: pieces that chapter 6 refuses: ErrForm, and the lane as it was.
func TestReadWrongPieces(t *testing.T) {
	e := token(2)
	for total := 1; total <= 33; total++ {
		for index := range total {
			if index > 0 {
				checkRead(t, api.Lane{}, piece(5, index, total, "x"), api.Lane{}, api.ErrForm)
				checkRead(t, lane(e), piece(5, index, total, "x"), lane(e), api.ErrForm)
			}
			for _, got := range []int{1, 2, 3} {
				if l := under(3, 4, got, "ab", e); total != 4 || index != got {
					checkRead(t, l, piece(5, index, total, "x"), l, api.ErrForm)
				}
			}
		}
	}
	// of others nothing is promised but what chapter 6 says
	for _, x := range [][2]int{{0, 0}, {0, 33}, {0, -1}, {-1, 1}, {1, 1}, {0, math.MaxInt}, {0, math.MinInt}, {math.MinInt, 1}} {
		checkRead(t, lane(e), piece(5, x[0], x[1], "x"), lane(e), api.ErrForm)
	}
}

// P15.2: orders and tokens that come while a message is under way: ErrForm, and the lane as it was.
func TestReadUnderWay(t *testing.T) {
	for _, l := range []api.Lane{under(3, 2, 1, "a"), under(3, 32, 31, ""), under(3, 3, 2, "ab", token(1), message(2, "c"))} {
		for _, seq := range []int{1, 2, 3, 4, 5, 100, far} {
			for _, it := range []api.Item{orders(seq, 0, 1), orders(seq, 1, 0, 1), turn(seq)} {
				checkRead(t, l, it, l, api.ErrForm)
			}
		}
	}
}

// P15.2: items of every other kind: ErrArg, also where the number is too low, or a message is under way; and the lane as it was.
func TestReadOtherKinds(t *testing.T) {
	for _, l := range append(good(), api.Lane{}) {
		for _, seq := range []int{1, 2, 3, 4, 9, 40, 41, 100, far} {
			for _, it := range others(seq) {
				checkRead(t, l, it, l, api.ErrArg)
			}
		}
	}
	for _, kind := range []int{0, -1, 7, 8, 257, 258, 259, math.MaxInt, math.MinInt} {
		for _, seq := range []int{-1, 0, 1, 50} {
			checkRead(t, lane(token(3)), api.Item{Kind: kind, Seq: seq}, lane(token(3)), api.ErrArg)
		}
	}
}

// P15.2: an order's senders are all told, and whether it hands on by its Index; of an entry more nothing else is told.
func TestReadOrders(t *testing.T) {
	var all []int
	for n := range api.MaxQuota {
		all = append(all, api.MaxN-1-n)
	}
	for n := 1; n <= len(all); n++ {
		checkRead(t, api.Lane{}, orders(n, 0, all[:n]...), lane(order(n, false, all[:n]...)), api.OK)
		checkRead(t, api.Lane{}, orders(n, 1, all[:n]...), lane(order(n, true, all[:n]...)), api.OK)
	}
}

// read is what the document says of an item that is read, in a way of its own: no code of frag, and no lists but those that it builds.
func read(l api.Lane, it api.Item) (api.Lane, api.Errno) {
	last := 0
	for _, e := range l.L {
		last = max(last, e.Seq)
	}
	underWay := l.Part.Got > 0
	if underWay {
		last = l.Part.Seq
	}
	if it.Kind < api.IData || it.Kind > api.IToken {
		return l, api.ErrArg
	}
	bad := it.Seq <= last
	if it.Kind == api.IData {
		bad = bad || it.Index != l.Part.Got || underWay && it.Total != l.Part.Total
	} else {
		bad = bad || underWay
	}
	if bad {
		return l, api.ErrForm
	}
	m := copied(l)
	switch {
	case it.Kind != api.IData:
		m.L = append(m.L, api.Entry{Kind: it.Kind, Seq: it.Seq, L: it.L, Hand: it.Index == 1})
	case it.Index < it.Total-1:
		if !underWay {
			m.Part.Seq, m.Part.Total = it.Seq, it.Total
		}
		m.Part.Got, m.Part.B = m.Part.Got+1, append(m.Part.B, it.Body...)
	default:
		seq := it.Seq
		if underWay {
			seq = m.Part.Seq
		}
		m.L = append(m.L, api.Entry{Kind: api.IData, Seq: seq, B: append(m.Part.B, it.Body...)})
		m.Part = api.Part{}
	}
	return m, api.OK
}

// items are items that may be, of all kinds, with small numbers.
func items() []api.Item {
	var all []api.Item
	for seq := 1; seq <= 12; seq++ {
		for total := 1; total <= 4; total++ {
			for index := range total {
				all = append(all, piece(seq, index, total, "ijkl"[:index]))
			}
		}
		all = append(all, orders(seq, 0, seq), orders(seq, 1, 0, seq), turn(seq))
		all = append(all, others(seq)...)
	}
	return all
}

// P15.2 and P15.5: everything small: all rows of up to two entries, with all messages under way behind them, and all items.
func TestReadEverythingSmall(t *testing.T) {
	all := items()
	for _, s := range rows(2) {
		lanes := []api.Lane{row(s)}
		for total := 2; total <= 4; total++ {
			for got := 1; got < total; got++ {
				for _, seq := range []int{6, 7, 9} {
					m := row(s)
					m.Part = api.Part{Seq: seq, Total: total, Got: got, B: []byte("uvw"[:got])}
					lanes = append(lanes, m)
				}
			}
		}
		for _, l := range lanes {
			for _, it := range all {
				want, code := read(l, it)
				checkRead(t, l, it, want, code)
			}
		}
	}
}

// P15.3: the first, a middle and the last entry are taken out; of a number that none has the lane is as it was.
func TestPop(t *testing.T) {
	e := []api.Entry{message(2, "ab"), order(3, true, 1, 0), token(5), message(9, "")}
	for _, p := range []api.Part{{}, {Seq: 11, Total: 3, Got: 2, B: []byte("uv")}} {
		l := api.Lane{L: e, Part: p}
		for _, x := range []struct {
			seq  int
			want []api.Entry
		}{
			{2, []api.Entry{e[1], e[2], e[3]}}, {3, []api.Entry{e[0], e[2], e[3]}}, {5, []api.Entry{e[0], e[1], e[3]}}, {9, []api.Entry{e[0], e[1], e[2]}},
			{1, e}, {0, e}, {-1, e}, {4, e}, {6, e}, {8, e}, {10, e}, {11, e}, {12, e}, {2 + 256, e}, {2 + 1<<32, e}, {-2, e}, {math.MaxInt, e}, {math.MinInt, e},
		} {
			if got, want := Pop(l, x.seq), (api.Lane{L: x.want, Part: p}); toldLane(got) != toldLane(want) || !Right(got) {
				t.Errorf("Pop of %d: %s", x.seq, toldLane(got))
			}
		}
	}
	for _, l := range []api.Lane{{}, under(4, 2, 1, "a")} {
		for seq := -1; seq <= 5; seq++ {
			if got := Pop(l, seq); toldLane(got) != toldLane(l) {
				t.Errorf("Pop of %d of %s: %s", seq, toldLane(l), toldLane(got))
			}
		}
	}
	if got := Pop(under(4, 2, 1, "a", token(3)), 3); toldLane(got) != toldLane(under(4, 2, 1, "a")) {
		t.Error(toldLane(got))
	}
}

// P15.3: an entry stands in the place of the first, a middle and the last one, of each kind for each kind.
func TestSet(t *testing.T) {
	for _, l := range append(good(), api.Lane{}) {
		for seq := -1; seq <= 45; seq++ {
			for _, e := range []api.Entry{message(seq, ""), message(seq, "new"), order(seq, false), order(seq, false, 63, 0), order(seq, true, 7), token(seq)} {
				want := copied(l)
				for i, was := range l.L {
					if was.Seq == seq {
						want.L[i] = e
					}
				}
				if got := Set(l, e); toldLane(got) != toldLane(want) || !Right(got) {
					t.Errorf("Set of %s, %s: %s", toldLane(l), toldEntry(e), toldLane(got))
				}
			}
		}
	}
}

// P15.3: the same, written out.
func TestSetWrittenOut(t *testing.T) {
	a, b, c := message(2, "a"), order(4, false, 1, 2), token(7)
	l := under(9, 2, 1, "u", a, b, c)
	for _, x := range []struct {
		e    api.Entry
		want api.Lane
	}{
		{order(2, true, 5), under(9, 2, 1, "u", order(2, true, 5), b, c)},
		{order(4, true, 2), under(9, 2, 1, "u", a, order(4, true, 2), c)},
		{order(4, false), under(9, 2, 1, "u", a, order(4, false), c)},
		{message(7, "x"), under(9, 2, 1, "u", a, b, message(7, "x"))},
		{token(1), l}, {token(3), l}, {token(8), l}, {token(9), l}, {token(10), l}, {token(0), l}, {token(-2), l}, {token(2 + 1<<32), l},
	} {
		if got := Set(l, x.e); toldLane(got) != toldLane(x.want) {
			t.Errorf("Set of %s: %s", toldEntry(x.e), toldLane(got))
		}
	}
}

// P15.3: an entry that may not be stands in nobody's place.
func TestSetUnfit(t *testing.T) {
	for _, l := range append(good(), api.Lane{}) {
		for _, was := range append(l.L, token(40), token(0), token(-1)) {
			for _, e := range unfit(was.Seq) {
				if got := Set(l, e); toldLane(got) != toldLane(l) {
					t.Errorf("Set of %s, %s: %s", toldLane(l), toldEntry(e), toldLane(got))
				}
			}
		}
	}
}

// P15.4: one less than the first entry's number, or than that of the message under way, or what was read.
func TestDone(t *testing.T) {
	for _, read := range []int{0, 1, 7, 98, -1, far, math.MaxInt, math.MinInt} {
		for _, x := range []struct {
			l    api.Lane
			want int
		}{
			{api.Lane{}, read},
			{api.Lane{L: []api.Entry{}}, read},
			{lane(message(1, "a")), 0},
			{lane(order(2, true, 1)), 1},
			{lane(token(99)), 98},
			{lane(token(math.MaxInt)), math.MaxInt - 1},
			{lane(message(3, "a"), token(4), message(5, "b")), 2},
			{under(1, 2, 1, "a"), 0},
			{under(8, 32, 31, ""), 7},
			{under(far, 3, 1, ""), far - 1},
			{under(9, 3, 2, "ab", token(4)), 3},
			{under(9, 3, 2, "ab", order(6, false, 1), message(8, "b")), 5},
		} {
			if got := Done(x.l, read); got != x.want {
				t.Errorf("Done of %s, %d: %d", toldLane(x.l), read, got)
			}
		}
	}
}

// The chapter's example: a message in two pieces, numbers 3 and 4.
func TestExample(t *testing.T) {
	l, code := Read(api.Lane{}, piece(3, 0, 2, "ab"))
	if code != api.OK || len(l.L) != 0 || Done(l, 4) != 2 {
		t.Error(toldLane(l), code, Done(l, 4))
	}
	l, code = Read(l, piece(4, 1, 2, "c"))
	if code != api.OK || toldLane(l) != toldLane(lane(message(3, "abc"))) || Done(l, 4) != 2 {
		t.Error(toldLane(l), code, Done(l, 4))
	}
}

// random is a row of numbers that look as if by chance, and are the same in each run.
type random uint64

func (r *random) below(n int) int {
	*r = *r*6364136223846793005 + 1442695040888963407
	return int(uint64(*r) >> 33 % uint64(n))
}

// stream is the items of a stream, numbered from 1 on, and the entries that are told of it. A message is cut by hand.
func stream(r *random, many int) (its []api.Item, es []api.Entry) {
	for range many {
		seq := len(its) + 1
		switch r.below(6) {
		case 0:
			its, es = append(its, turn(seq)), append(es, token(seq))
		case 1:
			l, hand := []int{r.below(64), r.below(64)}[:1+r.below(2)], r.below(2)
			its, es = append(its, orders(seq, hand, l...)), append(es, order(seq, hand == 1, l...))
		default:
			whole, total := "", 1+r.below(5)
			for i := range total {
				b := strings.Repeat(string(rune('a'+r.below(26))), r.below(4))
				its, whole = append(its, piece(seq+i, i, total, b)), whole+b
			}
			es = append(es, message(seq, whole))
		}
	}
	return its, es
}

// P15.5: of a stream that is read in order, each message is told whole, once, and in order, with the orders and tokens between them; also where others come once more, or are of no use, in between.
func TestStreamInOrder(t *testing.T) {
	for seed := range 60 {
		r := random(seed)
		its, want := stream(&r, 40)
		var l api.Lane
		var got []string
		for next := 0; next < len(its) || len(l.L) > 0; {
			switch k := r.below(5); {
			case next < len(its) && k < 3:
				// what came already is refused, as long as anything waits that tells how far the stream was read
				if next > 0 && (len(l.L) > 0 || l.Part.Got > 0) {
					if m, code := Read(l, its[r.below(next)]); code != api.ErrForm || !Same(l, m) {
						t.Fatalf("came already: %s, %s", toldLane(l), toldLane(m))
					}
				}
				var code api.Errno
				if l, code = Read(l, its[next]); code != api.OK || !Right(l) {
					t.Fatalf("%v: %d, %s", its[next], code, toldLane(l))
				}
				next++
			case k == 3:
				m, code := Read(l, others(next + 1)[r.below(6)])
				if code != api.ErrArg || !Same(l, m) {
					t.Fatal(code, toldLane(m))
				}
			default:
				if e, is := First(l); is {
					if Done(l, next) != e.Seq-1 {
						t.Fatal(Done(l, next), toldLane(l))
					}
					got, l = append(got, toldEntry(e)), Pop(l, e.Seq)
				}
			}
			if wait := next; len(l.L) == 0 && l.Part.Got == 0 && Done(l, wait) != wait {
				t.Fatal(Done(l, wait))
			}
		}
		var all []string
		for _, e := range want {
			all = append(all, toldEntry(e))
		}
		if !slices.Equal(got, all) || toldLane(l) != toldLane(api.Lane{}) {
			t.Fatalf("seed %d: told %v, not %v; left %s", seed, got, all, toldLane(l))
		}
	}
}

// P15.5: messages of a real stream, cut by frag, come out as they were.
func TestStreamOfCuts(t *testing.T) {
	r := random(5)
	var l api.Lane
	seq := 0
	for range 200 {
		b := make([]byte, r.below(300))
		for i := range b {
			b[i] = byte(r.below(256))
		}
		first, cut := seq+1, frag.Cut(b, 10+r.below(20))
		for i, p := range cut {
			seq++
			var code api.Errno
			if l, code = Read(l, api.Item{Kind: api.IData, Seq: seq, Index: i, Total: len(cut), Body: p}); code != api.OK {
				t.Fatal(code)
			}
		}
		e, is := Message(l)
		if !is || e.Seq != first || !bytes.Equal(e.B, b) || Many(l) != 1 {
			t.Fatal(toldLane(l))
		}
		l = Pop(l, e.Seq)
	}
}

// P15.5: lanes stay right over many calls in turn, and are those that the document tells.
func TestStayRight(t *testing.T) {
	all := items()
	for seed := range 200 {
		r := random(1000 + seed)
		l, want := api.Lane{}, api.Lane{}
		base := 0
		for range 150 {
			switch r.below(8) {
			case 0:
				if len(want.L) > 0 {
					at := r.below(len(want.L))
					l, want = Pop(l, want.L[at].Seq), turned(want, func(m *api.Lane) { m.L = slices.Delete(m.L, at, at+1) })
				}
			case 1:
				if len(want.L) > 0 {
					at := r.below(len(want.L))
					e := []api.Entry{message(want.L[at].Seq, "s"), order(want.L[at].Seq, true, 9), token(want.L[at].Seq)}[r.below(3)]
					l, want = Set(l, e), turned(want, func(m *api.Lane) { m.L[at] = e })
				}
			default:
				it := all[r.below(len(all))]
				it.Seq += base
				if r.below(2) == 0 && want.Part.Got > 0 {
					it = piece(want.Part.Seq+1+r.below(3), want.Part.Got, want.Part.Total, "n")
				}
				var code, asked api.Errno
				l, code = Read(l, it)
				want, asked = read(want, it)
				if code != asked {
					t.Fatalf("%v: %d, not %d", it, code, asked)
				}
				base += r.below(3)
			}
			if !Right(l) || !Same(l, want) || toldLane(l) != toldLane(want) {
				t.Fatalf("%s, not %s", toldLane(l), toldLane(want))
			}
		}
	}
}

// spoil writes over all that a lane holds.
func spoil(l api.Lane) {
	for i := range l.L {
		spoilEntry(l.L[i])
		l.L[i] = api.Entry{Kind: 77, Seq: -5, Hand: true}
	}
	for i := range l.Part.B {
		l.Part.B[i] ^= 0xff
	}
	// what is behind a list's last element is its owner's as well
	for _, e := range l.L[len(l.L):cap(l.L)] {
		spoilEntry(e)
	}
	clear(l.L[len(l.L):cap(l.L)])
	clear(l.Part.B[len(l.Part.B):cap(l.Part.B)])
}

// spoilEntry writes over all that an entry holds.
func spoilEntry(e api.Entry) {
	for i := range e.B {
		e.B[i] ^= 0xff
	}
	for i := range e.L {
		e.L[i] += 100
	}
	clear(e.B[len(e.B):cap(e.B)])
	clear(e.L[len(e.L):cap(e.L)])
}

// calls are all calls that answer a lane.
func calls() []func(l api.Lane, it api.Item, e api.Entry) api.Lane {
	return []func(l api.Lane, it api.Item, e api.Entry) api.Lane{
		func(l api.Lane, it api.Item, _ api.Entry) api.Lane { m, _ := Read(l, it); return m },
		func(l api.Lane, _ api.Item, e api.Entry) api.Lane { return Pop(l, e.Seq) },
		func(l api.Lane, _ api.Item, e api.Entry) api.Lane { return Set(l, e) },
	}
}

// roomy is a lane whose lists have room behind their last elements, where another one's data stand.
func roomy(l api.Lane) api.Lane {
	l = copied(l)
	for i := range l.L {
		l.L[i].B = append(l.L[i].B, "behind"...)[:len(l.L[i].B)]
		l.L[i].L = append(l.L[i].L, 1, 2, 3)[:len(l.L[i].L)]
	}
	l.L = append(l.L, message(500, "behind"), token(501))[:len(l.L)]
	l.Part.B = append(l.Part.B, "behind"...)[:len(l.Part.B)]
	return l
}

// wide is a lane as a text, with all that stands in the room behind.
func wide(l api.Lane) string {
	out := ""
	for _, e := range l.L[:cap(l.L)] {
		e.B, e.L = e.B[:cap(e.B)], e.L[:cap(e.L)]
		out += toldEntry(e)
	}
	l.Part.B = l.Part.B[:cap(l.Part.B)]
	return out + toldLane(l)
}

// R3: what is handed in is not written into, neither by the calls nor by who changes what they told; nor is what they told changed by who changes what was handed in.
func TestNothingIsShared(t *testing.T) {
	for _, l := range append(good(), api.Lane{}) {
		if len(l.L) > 0 && len(l.L[0].B)+len(l.L[0].L) > 100 {
			continue
		}
		for _, it := range []api.Item{piece(300, 0, 1, "x"), piece(300, 0, 2, "x"), piece(300, 1, 3, "x"), piece(300, 2, 3, "x"), piece(1, 0, 1, "x"), orders(300, 1, 5, 6), orders(1, 1, 5, 6), turn(300), others(300)[5]} {
			for _, e := range []api.Entry{message(3, "set"), order(5, true, 7, 8), token(3), message(200, "set"), {Kind: api.IToken, Seq: 3, L: []int{4}}} {
				for i, call := range calls() {
					in, its, es := roomy(l), it, e
					its.L, its.Body, es.L, es.B = slices.Clone(it.L), bytes.Clone(it.Body), slices.Clone(e.L), bytes.Clone(e.B)
					was := wide(in) + fmt.Sprint(its) + toldEntry(es)
					spoil(call(in, its, es))
					if wide(in)+fmt.Sprint(its)+toldEntry(es) != was {
						t.Fatalf("call %d writes into what is handed in: %s", i, wide(in))
					}
					out := call(in, its, es)
					told := toldLane(out)
					spoil(in)
					spoilEntry(es)
					spoilEntry(api.Entry{B: its.Body, L: its.L})
					if toldLane(out) != told {
						t.Fatalf("call %d shares with what is handed in: %s, not %s", i, toldLane(out), told)
					}
				}
			}
		}
	}
}

// R3: an entry that is told shares nothing with its lane.
func TestToldIsNotShared(t *testing.T) {
	for _, s := range rows(3) {
		for _, tell := range []func(api.Lane) (api.Entry, bool){First, Message, Control} {
			l := roomy(row(s))
			was := wide(l)
			e, _ := tell(l)
			told := toldEntry(e)
			spoilEntry(e)
			if wide(l) != was {
				t.Fatalf("%s: what is told is changed, and so is the lane: %s", s, wide(l))
			}
			e, _ = tell(l)
			spoil(l)
			if toldEntry(e) != told {
				t.Fatalf("%s: the lane is changed, and so is what was told: %s", s, toldEntry(e))
			}
		}
	}
}

// Rule of the language: no call panics, at lanes that aren't right and items that may not be either.
func TestNoPanic(t *testing.T) {
	odd := []api.Lane{under(-3, math.MinInt, -1, "x"), under(0, 0, math.MinInt, ""), under(5, 2, 7, "x", token(9), token(-9), api.Entry{Kind: 50}), lane(api.Entry{Seq: math.MinInt}), under(1, 1, math.MaxInt, "")}
	for _, l := range append(odd, good()...) {
		for _, it := range append(items(), api.Item{}, piece(math.MinInt, math.MinInt, math.MinInt, ""), orders(math.MaxInt, 9, -1, 1<<40), api.Item{Kind: -1, Seq: -1}) {
			Read(l, it)
		}
		for _, e := range append(unfit(9), token(-9), token(math.MinInt)) {
			Set(l, e)
			Pop(l, e.Seq)
		}
		First(l)
		Message(l)
		Control(l)
		Many(l)
		Done(l, 3)
		Same(l, odd[0])
		Right(l)
	}
}
