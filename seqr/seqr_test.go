package seqr

import (
	"bytes"
	"fmt"
	"math"
	"slices"
	"strings"
	"testing"

	"precentor/api"
	"precentor/item"
	"precentor/lane"
)

// message, order and token are entries.
func message(seq int, b string) api.Entry {
	return api.Entry{Kind: api.IData, Seq: seq, B: []byte(b)}
}

func order(seq int, hand bool, l ...int) api.Entry {
	return api.Entry{Kind: api.IOrder, Seq: seq, L: l, Hand: hand}
}

func token(seq int) api.Entry {
	return api.Entry{Kind: api.IToken, Seq: seq}
}

// row is a lane of entries, with nothing under way.
func row(l ...api.Entry) api.Lane {
	return api.Lane{L: l}
}

// under is a lane with a message under way behind its entries.
func under(seq int, b string, l ...api.Entry) api.Lane {
	return api.Lane{L: l, Part: api.Part{Seq: seq, Total: 3, Got: 2, B: []byte(b)}}
}

// rows are lanes.
func rows(l ...api.Lane) []api.Lane { return l }

// turn is a turn.
func turn(who, used int) api.Turn { return api.Turn{Who: who, Used: used} }

// toldLane is a lane as a text: that of another one only if they are the same.
func toldLane(l api.Lane) string {
	var out strings.Builder
	for _, e := range l.L {
		fmt.Fprintf(&out, "(%d %d %x %v %t)", e.Kind, e.Seq, e.B, e.L, e.Hand)
	}
	fmt.Fprintf(&out, "[%d %d %d %x]", l.Part.Seq, l.Part.Total, l.Part.Got, l.Part.B)
	return out.String()
}

// told is a turn and lanes as a text.
func told(t api.Turn, l []api.Lane) string {
	out := fmt.Sprintf("%d %d: %d lanes", t.Who, t.Used, len(l))
	for _, one := range l {
		out += " " + toldLane(one)
	}
	return out
}

// said is what was delivered, as a text: of each message who sent it, and its bytes.
func said(l []api.Deliv) string {
	out := []string{}
	for _, d := range l {
		out = append(out, fmt.Sprintf("%d%s", d.From, d.B))
	}
	return strings.Join(out, " ")
}

// toldItem is an item as a text.
func toldItem(it api.Item) string {
	return fmt.Sprintf("%d %d %d %d %d %d %v %x", it.Kind, it.Seq, it.Epoch, it.Index, it.Total, it.Count, it.L, it.Body)
}

// copied are lanes with memory of their own.
func copied(l []api.Lane) []api.Lane {
	l = slices.Clone(l)
	for i := range l {
		l[i].L = slices.Clone(l[i].L)
		for k := range l[i].L {
			l[i].L[k].B, l[i].L[k].L = bytes.Clone(l[i].L[k].B), slices.Clone(l[i].L[k].L)
		}
		l[i].Part.B = bytes.Clone(l[i].Part.B)
	}
	return l
}

// checkWalk: does a walk come to that turn and those lanes, and deliver that? What is handed in stays, and what comes is right.
func checkWalk(t *testing.T, at api.Turn, l []api.Lane, to api.Turn, left []api.Lane, out string) {
	t.Helper()
	was := told(at, l)
	b, m, d := Walk(at, l)
	if told(b, m) != told(to, left) || said(d) != out {
		t.Errorf("Walk of %s:\n%s, %q, not\n%s, %q", was, told(b, m), said(d), told(to, left), out)
	}
	if told(at, l) != was {
		t.Errorf("Walk of %s: it is %s now", was, told(at, l))
	}
	for i, one := range m {
		if !lane.Right(one) {
			t.Errorf("Walk of %s: lane %d isn't right: %s", was, i, toldLane(one))
		}
	}
}

// P16.1: nothing in Who's lane that says anything: all is as it was, whatever waits in the others.
func TestWalkNothingToSay(t *testing.T) {
	for _, l := range [][]api.Lane{
		rows(row(), row()),
		rows(row(message(1, "a")), row()),
		rows(row(message(1, "a"), message(2, "b")), row(order(1, true, 0))),
		rows(row(), row(token(1), order(2, false, 0))),
		rows(row(), row(message(3, "x"), order(4, true))),
		rows(under(3, "xy", message(1, "a")), row(token(1))),
		rows(under(3, "xy"), under(9, "", order(1, true, 1))),
	} {
		for _, used := range []int{0, 1, 64, 1 << 60} {
			checkWalk(t, turn(0, used), l, turn(0, used), l, "")
		}
	}
}

// P16.1: tokens are taken away, wherever they stand, and say nothing else.
func TestWalkTokens(t *testing.T) {
	for _, x := range []struct {
		l, left api.Lane
		out     string
		used    int
	}{
		{row(token(1)), row(), "", 7},
		{row(token(1), token(5)), row(), "", 7},
		{row(message(1, "a"), token(2), message(3, "b"), token(4), token(6)), row(message(1, "a"), message(3, "b")), "", 7},
		{row(order(1, false, 1), token(2)), row(), "1y", 8},
		{row(token(1), order(2, false, 1), token(3)), row(), "1y", 8},
		{row(order(1, false, 0), token(2)), row(order(1, false, 0), token(2)), "", 7},
		{row(order(1, false, 1, 0), token(2)), row(order(1, false, 0), token(2)), "1y", 8},
		{under(9, "u", token(3)), under(9, "u"), "", 7},
	} {
		other := []api.Entry{message(4, "y"), token(5)}
		gone := x.used - 7
		checkWalk(t, turn(0, 7), rows(x.l, row(other...)), turn(0, x.used), rows(x.left, row(other[gone:]...)), x.out)
	}
}

// P16.1: an order without senders is taken away; if it hands the turn on, that is the next member's, with nothing used.
func TestWalkNoSenders(t *testing.T) {
	for many := 2; many <= 64; many++ {
		for _, who := range []int{0, 1, many / 2, many - 2, many - 1} {
			l, left := make([]api.Lane, many), make([]api.Lane, many)
			l[who] = row(message(1, "a"), order(2, false), message(3, "b"))
			left[who] = row(message(1, "a"), message(3, "b"))
			checkWalk(t, turn(who, 5), l, turn(who, 5), left, "")
			l[who] = row(message(1, "a"), order(2, true), message(3, "b"))
			next := who + 1
			if next == many {
				next = 0
			}
			checkWalk(t, turn(who, 5), l, turn(next, 0), left, "")
		}
	}
}

// P16.1: orders with senders, each case written out.
func TestWalkOrders(t *testing.T) {
	for _, x := range []struct {
		at   api.Turn
		l    []api.Lane
		to   api.Turn
		left []api.Lane
		out  string
	}{
		// one sender, and what is ahead of it and behind it
		{turn(0, 0), rows(row(order(2, false, 1)), row(message(5, "b"))), turn(0, 1), rows(row(), row()), "1b"},
		{turn(0, 4), rows(row(message(1, "a"), order(2, false, 1), message(3, "c")), row(message(5, "b"), message(6, "d"))), turn(0, 5), rows(row(message(1, "a"), message(3, "c")), row(message(6, "d"))), "1b"},
		{turn(0, 63), rows(row(order(2, true, 1)), row(message(5, "b"))), turn(1, 0), rows(row(), row()), "1b"},
		{turn(1, 1), rows(row(message(5, "b"), message(6, "d")), row(order(2, true, 0))), turn(0, 0), rows(row(message(6, "d")), row()), "0b"},
		// many, and the same twice
		{turn(0, 0), rows(row(order(4, false, 2, 1, 2)), row(message(5, "b")), row(message(1, "c"), message(2, "d"))), turn(0, 3), rows(row(), row(), row()), "2c 1b 2d"},
		{turn(0, 0), rows(row(order(4, false, 1, 1)), row(message(5, "b"), message(6, "c"), message(7, "d"))), turn(0, 2), rows(row(), row(message(7, "d"))), "1b 1c"},
		{turn(0, 0), rows(row(order(4, true, 1, 1, 1)), row(message(5, "b"), message(6, "c"))), turn(0, 2), rows(row(order(4, true, 1)), row()), "1b 1c"},
		// a sender without a message: that is all, though others behind it have one
		{turn(0, 3), rows(row(order(4, true, 1, 2)), row(), row(message(1, "c"))), turn(0, 3), rows(row(order(4, true, 1, 2)), row(), row(message(1, "c"))), ""},
		{turn(0, 3), rows(row(order(4, true, 2, 1, 2)), row(token(3), order(4, true)), row(message(1, "c"), message(2, "d"))), turn(0, 4), rows(row(order(4, true, 1, 2)), row(token(3), order(4, true)), row(message(2, "d"))), "2c"},
		{turn(0, 3), rows(row(order(4, false, 1), order(5, true)), under(7, "abc")), turn(0, 3), rows(row(order(4, false, 1), order(5, true)), under(7, "abc")), ""},
		// a message behind an order of its own lane, or behind a token, or ahead of one under way
		{turn(0, 0), rows(row(order(4, false, 1)), row(order(5, true, 0), token(6), message(7, "b"))), turn(0, 1), rows(row(), row(order(5, true, 0), token(6))), "1b"},
		{turn(0, 0), rows(row(order(4, false, 1)), under(9, "xy", message(7, "b"))), turn(0, 1), rows(row(), under(9, "xy")), "1b"},
		// Who itself is a sender: of a message ahead of the order, and of one behind it
		{turn(0, 0), rows(row(message(3, "a"), order(4, false, 0)), row()), turn(0, 1), rows(row(), row()), "0a"},
		{turn(0, 0), rows(row(order(4, false, 0), message(5, "a")), row()), turn(0, 1), rows(row(), row()), "0a"},
		{turn(0, 0), rows(row(message(3, "a"), order(4, true, 0, 1, 0), message(5, "b")), row(message(1, "c"))), turn(1, 0), rows(row(), row()), "0a 1c 0b"},
		// one order behind the other, of one lane, and of the next member's
		{turn(0, 0), rows(row(order(4, false, 1), order(5, false, 1)), row(message(5, "b"), message(6, "c"))), turn(0, 2), rows(row(), row()), "1b 1c"},
		{turn(0, 9), rows(row(order(4, true, 1), order(5, false, 1)), row(message(5, "b"), message(6, "c"))), turn(1, 0), rows(row(order(5, false, 1)), row(message(6, "c"))), "1b"},
		{turn(0, 9), rows(row(order(4, true, 1), order(5, false, 1)), row(message(5, "b"), order(6, true, 1), message(7, "c"), message(8, "d"))), turn(0, 1), rows(row(), row()), "1b 1c 1d"},
		// no bytes are a message too
		{turn(1, 0), rows(row(message(1, "")), row(order(1, false, 0, 0))), turn(1, 1), rows(row(), row(order(1, false, 0))), "0"},
	} {
		checkWalk(t, x.at, x.l, x.to, x.left, x.out)
	}
}

// P16.1: a sender that is no member is taken out, wherever it stands, and nothing is used by that; each number that an order may hold.
func TestWalkNoMembers(t *testing.T) {
	for many := 2; many <= 64; many += 31 {
		for n := many; n < 64; n++ {
			for _, x := range []struct{ l, left []int }{
				{[]int{n}, nil},
				{[]int{n, 1}, []int{1}},
				{[]int{1, n}, []int{1}},
				{[]int{n, 1, n, n, 1, n, 63}, []int{1, 1}},
			} {
				l, left := make([]api.Lane, many), make([]api.Lane, many)
				l[0], l[1] = row(order(1, true, x.l...)), row(message(1, "a"), message(2, "b"), message(3, "c"))
				left[1] = row(l[1].L[len(x.left):]...)
				out := "1a 1b"[:max(0, 3*len(x.left)-1)]
				if many == 64 && slices.Contains(x.l, 63) {
					continue
				}
				checkWalk(t, turn(0, 5), l, turn(1, 0), left, out)
				l[0].L[0].Hand = false
				checkWalk(t, turn(0, 5), l, turn(0, 5+len(x.left)), left, out)
			}
		}
	}
	// the last number that is a member, and the first one that is none
	l := rows(row(order(1, false, 3, 2, 4, 2)), row(), row(message(8, "a"), message(9, "b")))
	checkWalk(t, turn(0, 0), l, turn(0, 2), rows(row(), row(), row()), "2a 2b")
	// behind one that has no message none is taken out
	l = rows(row(order(1, false, 3, 1, 4)), row(), row(message(8, "a")))
	checkWalk(t, turn(0, 0), l, turn(0, 0), rows(row(order(1, false, 1, 4)), row(), row(message(8, "a"))), "")
}

// P16.1: Used is one more for each message that is delivered, and for nothing else, from whatever it was.
func TestWalkUsed(t *testing.T) {
	for _, used := range []int{0, 1, 63, 64, 65, 1 << 20, 1 << 60} {
		for many := range 70 {
			a, o := row(), row(token(1), order(2, false), order(3, false, 40))
			for i := range many {
				a.L = append(a.L, message(i+1, "x"))
				o.L = append(o.L, order(i+4, false, 50, 1))
			}
			b, m, d := Walk(turn(0, used), rows(o, a))
			if b != turn(0, used+many) || len(d) != many || len(m[0].L)+len(m[1].L) != 0 {
				t.Errorf("%d messages from Used %d on: %v, %d delivered", many, used, b, len(d))
			}
		}
	}
}

// P16.1: a walk goes on in the next member's lane, through all members and around, as often as there are orders.
func TestWalkAround(t *testing.T) {
	for _, many := range []int{2, 3, 17, 64} {
		for _, who := range []int{0, 1, many - 1} {
			l, left := make([]api.Lane, many), make([]api.Lane, many)
			var want []string
			for k := range 3 {
				for i := range many {
					at, from := (who+i)%many, (who+2*i+k)%many
					l[at].L = append(l[at].L, order(100*(k+1), true, from))
					l[from].L = append(l[from].L, message(100*(k+1)+1+len(l[from].L), ""))
				}
			}
			for i := range l { // numbers rise, and each message tells its place
				n := 0
				for s := range l[i].L {
					l[i].L[s].Seq = s + 1
					if l[i].L[s].Kind == api.IData {
						l[i].L[s].B = []byte(fmt.Sprintf(":%d", n))
						n++
					}
				}
			}
			count := make([]int, many)
			for k := range 3 {
				for i := range many {
					from := (who + 2*i + k) % many
					want = append(want, fmt.Sprintf("%d:%d", from, count[from]))
					count[from]++
				}
			}
			checkWalk(t, turn(who, 3), l, turn(who, 0), left, strings.Join(want, " "))
		}
	}
}

// model walks another way: it keeps, of each lane, its messages and its orders and tokens apart.
type model struct {
	t        api.Turn
	messages [][]api.Entry
	controls [][]api.Entry
	out      []api.Deliv
}

// newModel is a model of lanes.
func newModel(t api.Turn, l []api.Lane) *model {
	m := &model{t: t, messages: make([][]api.Entry, len(l)), controls: make([][]api.Entry, len(l))}
	for i, one := range copied(l) {
		for _, e := range one.L {
			if e.Kind == api.IData {
				m.messages[i] = append(m.messages[i], e)
			} else {
				m.controls[i] = append(m.controls[i], e)
			}
		}
	}
	return m
}

// step is one step of the walk; no: that is all.
func (m *model) step() bool {
	many := len(m.messages)
	c := m.controls[m.t.Who]
	if len(c) == 0 {
		return false
	}
	if c[0].Kind == api.IToken {
		m.controls[m.t.Who] = c[1:]
		return true
	}
	if len(c[0].L) == 0 {
		m.controls[m.t.Who] = c[1:]
		if c[0].Hand {
			m.t.Used = 0
			m.t.Who++
			if m.t.Who == many {
				m.t.Who = 0
			}
		}
		return true
	}
	from := c[0].L[0]
	if from >= many {
		c[0].L = c[0].L[1:]
		return true
	}
	if len(m.messages[from]) == 0 {
		return false
	}
	m.out = append(m.out, api.Deliv{From: from, B: m.messages[from][0].B})
	m.messages[from] = m.messages[from][1:]
	c[0].L = c[0].L[1:]
	m.t.Used++
	return true
}

// lanes are the lanes that are left, each in order of its numbers.
func (m *model) lanes(was []api.Lane) []api.Lane {
	l := make([]api.Lane, len(was))
	for i := range l {
		l[i].Part = was[i].Part
		l[i].L = append(append(l[i].L, m.messages[i]...), m.controls[i]...)
		slices.SortFunc(l[i].L, func(a, b api.Entry) int { return a.Seq - b.Seq })
	}
	return l
}

// checkModel: does a walk do what the model does?
func checkModel(t *testing.T, at api.Turn, l []api.Lane) {
	t.Helper()
	m := newModel(at, l)
	for m.step() {
	}
	checkWalk(t, at, l, m.t, m.lanes(l), said(m.out))
}

// kinds are entries of all kinds, whose numbers are to be set.
func kinds() []api.Entry {
	return []api.Entry{message(0, "x"), token(0), order(0, false), order(0, true), order(0, false, 0), order(0, true, 0), order(0, false, 1), order(0, true, 1), order(0, true, 1, 0), order(0, false, 0, 0), order(0, false, 2, 1), order(0, true, 0, 63)}
}

// short are all lanes of up to so many entries of all kinds; each message has bytes of its own.
func short(most int) []api.Lane {
	all, last := []api.Lane{{}}, []api.Lane{{}}
	for range most {
		var next []api.Lane
		for _, l := range last {
			for _, e := range kinds() {
				e.Seq = 2*len(l.L) + 1
				if e.Kind == api.IData {
					e.B = []byte(fmt.Sprint("m", e.Seq))
				}
				next = append(next, row(append(slices.Clone(l.L), e)...))
			}
		}
		all, last = append(all, next...), next
	}
	return all
}

// P16.1: everything small: two lanes of up to two entries, and one of up to three beside some that are set.
func TestWalkEverythingSmall(t *testing.T) {
	for _, a := range short(2) {
		for _, b := range short(2) {
			for who := range 2 {
				checkModel(t, turn(who, 3), rows(a, b))
			}
		}
	}
	for _, a := range short(3) {
		for _, b := range []api.Lane{row(), row(message(1, "b"), order(2, true, 0), message(3, "c"))} {
			checkModel(t, turn(0, 0), rows(a, b))
			checkModel(t, turn(2, 0), rows(b, row(order(1, true, 2), message(2, "z")), a))
		}
	}
}

// random are numbers that look as if they came by chance, and are the same each time.
type random uint64

func (r *random) below(n int) int {
	*r = *r*6364136223846793005 + 1442695040888963407
	return int(uint64(*r) >> 33 % uint64(n))
}

// chance are lanes of up to so many entries, that are right.
func (r *random) chance(many, most int) []api.Lane {
	l := make([]api.Lane, many)
	for i := range l {
		seq := 0
		for range r.below(most + 1) {
			seq += 1 + r.below(3)
			l[i].L = append(l[i].L, r.entry(seq, many, fmt.Sprintf(":%d.", seq)))
		}
		if r.below(4) == 0 {
			l[i].Part = api.Part{Seq: seq + 1, Total: 2 + r.below(31), Got: 1, B: []byte("part")}
		}
	}
	return l
}

// entry is an entry of any kind, most often a message.
func (r *random) entry(seq, many int, b string) api.Entry {
	switch r.below(8) {
	case 0:
		return token(seq)
	case 1, 2, 3:
		var l []int
		for range r.below(5) {
			n := r.below(many)
			if r.below(6) == 0 {
				n = r.below(64)
			}
			l = append(l, n)
		}
		return order(seq, r.below(3) > 0, l...)
	}
	return message(seq, b)
}

// P16.1: walks of lanes of all numbers of members, with many entries.
func TestWalkByChance(t *testing.T) {
	r := random(16)
	for range 800 {
		many := []int{2, 2, 3, 4, 9, 64}[r.below(6)]
		checkModel(t, turn(r.below(many), r.below(100)), r.chance(many, []int{3, 12, 40}[r.below(3)]))
	}
}

// checkSay: is that said? What is handed in stays.
func checkSay(t *testing.T, at api.Turn, l []api.Lane, me, quota int, want []int, index int) {
	t.Helper()
	was := told(at, l)
	it, is := Say(at, l, me, quota)
	none, some := toldItem(api.Item{}), toldItem(api.Item{Kind: api.IOrder, L: want, Index: index})
	if is != (len(want) > 0) || is && toldItem(it) != some || !is && toldItem(it) != none {
		t.Errorf("Say of %s, %d, quota %d: %s, %t, not %v, %d", was, me, quota, toldItem(it), is, want, index)
	}
	if told(at, l) != was {
		t.Errorf("Say of %s: it is %s now", was, told(at, l))
	}
}

// P16.2: each case written out.
func TestSay(t *testing.T) {
	a, b, c := message(1, "a"), message(2, "b"), message(3, "c")
	three := rows(row(a, b), row(), row(c))
	for _, x := range []struct {
		at        api.Turn
		l         []api.Lane
		me, quota int
		want      []int
		index     int
	}{
		// in one lane, and in several, from me's on, and round
		{turn(0, 0), rows(row(a), row()), 0, 8, []int{0}, 0},
		{turn(0, 0), rows(row(), row(a)), 0, 8, []int{1}, 0},
		{turn(0, 0), rows(row(a, b, c), row()), 0, 8, []int{0, 0, 0}, 0},
		{turn(0, 0), three, 0, 64, []int{0, 0, 2}, 0},
		{turn(1, 0), three, 1, 64, []int{2, 0, 0}, 0},
		{turn(2, 0), three, 2, 64, []int{2, 0, 0}, 0},
		{turn(1, 0), rows(row(c), row(a, b)), 1, 64, []int{1, 1, 0}, 0},
		// as many as are left of the quota, one fewer, one more
		{turn(0, 0), three, 0, 4, []int{0, 0, 2}, 0},
		{turn(0, 0), three, 0, 3, []int{0, 0, 2}, 1},
		{turn(0, 0), three, 0, 2, []int{0, 0}, 1},
		{turn(0, 0), three, 0, 1, []int{0}, 1},
		{turn(1, 0), three, 1, 1, []int{2}, 1},
		{turn(2, 0), three, 2, 2, []int{2, 0}, 1},
		{turn(0, 60), three, 0, 64, []int{0, 0, 2}, 0},
		{turn(0, 61), three, 0, 64, []int{0, 0, 2}, 1},
		{turn(0, 62), three, 0, 64, []int{0, 0}, 1},
		{turn(0, 63), three, 0, 64, []int{0}, 1},
		// nothing is left of the quota
		{turn(0, 64), three, 0, 64, nil, 0},
		{turn(0, 65), three, 0, 64, nil, 0},
		{turn(0, 1<<60), three, 0, 64, nil, 0},
		{turn(0, 1), three, 0, 1, nil, 0},
		{turn(0, 2), three, 0, 1, nil, 0},
		// it isn't me's turn
		{turn(1, 0), three, 0, 64, nil, 0},
		{turn(0, 0), three, 1, 64, nil, 0},
		{turn(0, 0), three, 2, 64, nil, 0},
		{turn(2, 0), three, 0, 64, nil, 0},
		// nobody has a message
		{turn(0, 0), rows(row(), row()), 0, 64, nil, 0},
		{turn(0, 0), rows(under(4, "abc"), under(5, "")), 0, 64, nil, 0},
		{turn(1, 0), rows(row(token(1), order(2, true, 1)), row()), 1, 64, nil, 0},
		// me's lane has an order or a token, wherever it stands
		{turn(0, 0), rows(row(a, order(4, false, 0)), row(b)), 0, 64, nil, 0},
		{turn(0, 0), rows(row(order(4, true)), row(b)), 0, 64, nil, 0},
		{turn(0, 0), rows(row(token(1), b), row(b)), 0, 64, nil, 0},
		{turn(0, 0), rows(row(a, token(2), c), row(b)), 0, 64, nil, 0},
		// others' lanes may have them: messages ahead of them and behind them count
		{turn(0, 0), rows(row(a), row(a, order(2, true, 0, 1), c, token(4), message(5, "d"))), 0, 64, []int{0, 1, 1, 1}, 0},
		{turn(0, 0), rows(row(a), row(token(4), order(5, false))), 0, 64, []int{0}, 0},
		// a message under way isn't one that waits
		{turn(0, 0), rows(under(4, "x", a), under(5, "y", b, c)), 0, 3, []int{0, 1, 1}, 1},
	} {
		checkSay(t, x.at, x.l, x.me, x.quota, x.want, x.index)
	}
}

// wanted is what Say is to tell, reckoned another way: all places of messages in a row, and of these the first ones.
func wanted(at api.Turn, l []api.Lane, me, quota int) ([]int, int) {
	var all []int
	for i, one := range slices.Concat(l[me:], l[:me]) {
		for _, e := range one.L {
			if e.Kind == api.IData {
				all = append(all, (me+i)%len(l))
			} else if i == 0 {
				return nil, 0
			}
		}
	}
	if at.Who != me || at.Used >= quota {
		return nil, 0
	}
	if len(all) < quota-at.Used {
		return all, 0
	}
	return all[:quota-at.Used], 1
}

// P16.2: everything small: two lanes, whoever asks, whosever turn it is, with little quotas.
func TestSayEverythingSmall(t *testing.T) {
	for _, a := range short(2) {
		for _, b := range short(1) {
			for k := range 72 {
				at, me, quota := turn(k%2, k/4%3), k/2%2, 1+k/12%3
				l := rows(a, b)
				if k >= 36 {
					l = rows(b, a)
				}
				want, index := wanted(at, l, me, quota)
				checkSay(t, at, l, me, quota, want, index)
			}
		}
	}
}

// full are so many lanes of so many messages each.
func full(many, each int) []api.Lane {
	l := make([]api.Lane, many)
	for i := range l {
		for k := range each {
			l[i].L = append(l[i].L, message(k+1, fmt.Sprintf(":%d", k)))
		}
	}
	return l
}

// P16.2: all quotas, whatever is used of them, with few messages and with many, of two members and of 64; what is said is an item that may be, once it has a number.
func TestSayQuotas(t *testing.T) {
	for _, l := range [][]api.Lane{full(2, 1), full(2, 31), full(2, 32), full(2, 40), full(64, 1), full(64, 2), full(3, 21)} {
		for quota := 1; quota <= 64; quota++ {
			for _, used := range []int{0, 1, quota - 2, quota - 1, quota, quota + 1, 1 << 60} {
				for _, me := range []int{0, 1, len(l) - 1} {
					at := turn(me, max(used, 0))
					want, index := wanted(at, l, me, quota)
					checkSay(t, at, l, me, quota, want, index)
					it, is := Say(at, l, me, quota)
					if it.Seq++; is && !item.May(it) {
						t.Error("may not be:", toldItem(it))
					}
				}
			}
		}
	}
}

// P16.2: who asks is said first, and so on round, whoever it is.
func TestSayRound(t *testing.T) {
	for many := 2; many <= 64; many++ {
		for me := range many {
			var want []int
			for i := me; i < many; i++ {
				want = append(want, i)
			}
			for i := range me {
				want = append(want, i)
			}
			index := 0
			if many == 64 {
				index = 1
			}
			checkSay(t, turn(me, 0), full(many, 1), me, 64, want, index)
			checkSay(t, turn((me+1)%many, 0), full(many, 1), me, 64, nil, 0)
		}
	}
}

// messages are the messages of a lane, as a text of each.
func messages(who int, l api.Lane) []string {
	var out []string
	for _, e := range l.L {
		if e.Kind == api.IData {
			out = append(out, fmt.Sprintf("%d%s", who, e.B))
		}
	}
	return out
}

// P16.3: what is delivered is what is gone of the lanes, each lane's first ones, in order; nothing under way is touched.
func TestGoneIsDelivered(t *testing.T) {
	r := random(163)
	for range 1000 {
		many := []int{2, 2, 3, 3, 5, 5, 8, 64}[r.below(8)]
		l := r.chance(many, 20)
		at, m, d := Walk(turn(r.below(many), r.below(10)), l)
		if len(m) != many || at.Who < 0 || at.Who >= many {
			t.Fatal(at, len(m))
		}
		for i := range l {
			var of []string
			for _, x := range d {
				if x.From == i {
					of = append(of, fmt.Sprintf("%d%s", i, x.B))
				}
			}
			if !slices.Equal(append(of, messages(i, m[i])...), messages(i, l[i])) {
				t.Errorf("%d of %s: delivered %v, left %s", i, toldLane(l[i]), of, toldLane(m[i]))
			}
			if !lane.Right(m[i]) || fmt.Sprint(m[i].Part) != fmt.Sprint(l[i].Part) {
				t.Error(toldLane(m[i]))
			}
		}
		again, n, none := Walk(at, m) // behind a walk there is nothing more
		if told(again, n) != told(at, m) || len(none) > 0 {
			t.Errorf("%s: walked again %s, %s", told(at, m), told(again, n), said(none))
		}
	}
}

// stream is the items of a stream, numbered from 1 on.
func (r *random) stream(many, most int) []api.Item {
	var its []api.Item
	for range r.below(most + 1) {
		seq := len(its) + 1
		switch e := r.entry(seq, many, fmt.Sprintf(":%d.", seq)); e.Kind {
		case api.IToken:
			its = append(its, api.Item{Kind: api.IToken, Seq: seq})
		case api.IOrder:
			it := api.Item{Kind: api.IOrder, Seq: seq, L: e.L}
			if e.Hand {
				it.Index = 1
			}
			its = append(its, it)
		default:
			total := 1 + r.below(3)
			for i := range total {
				its = append(its, api.Item{Kind: api.IData, Seq: seq + i, Index: i, Total: total, Body: e.B})
			}
		}
	}
	return its
}

// read reads an item of a lane.
func read(t *testing.T, l []api.Lane, who int, it api.Item) {
	t.Helper()
	var code api.Errno
	if l[who], code = lane.Read(l[who], it); code != api.OK {
		t.Fatalf("Read of %s, %s: %d", toldLane(l[who]), toldItem(it), code)
	}
}

// P16.3: items come in any turns of the streams, and the walk is cut anywhere: what is delivered is the same as at once, and so is what is left.
func TestWalkInParts(t *testing.T) {
	r := random(5)
	for range 300 {
		many := []int{2, 3, 3, 6, 6, 6, 9, 64}[r.below(8)]
		streams, l := make([][]api.Item, many), make([]api.Lane, many)
		at := turn(r.below(many), r.below(5))
		for i := range streams {
			streams[i] = r.stream(many, 12)
			for _, it := range streams[i] {
				read(t, l, i, it)
			}
		}
		once, left, all := Walk(at, l)
		for _, often := range []int{1, 3, 20} {
			now, m, out, next := at, make([]api.Lane, many), []api.Deliv(nil), make([]int, many)
			for {
				var open []int
				for i := range streams {
					if next[i] < len(streams[i]) {
						open = append(open, i)
					}
				}
				if len(open) == 0 {
					break
				}
				who := open[r.below(len(open))]
				read(t, m, who, streams[who][next[who]])
				next[who]++
				if r.below(often) == 0 {
					var d []api.Deliv
					now, m, d = Walk(now, m)
					out = append(out, d...)
				}
			}
			now, m, d := Walk(now, m)
			if out = append(out, d...); said(out) != said(all) || told(now, m) != told(once, left) {
				t.Fatalf("in parts %s, %q, at once %s, %q", told(now, m), said(out), told(once, left), said(all))
			}
		}
	}
}

// P16.3: what Say tells is read as the next item of me's lane, and walked to its end: all that it names is delivered first, in its order, and the turn is handed on as it says.
func TestSaidIsWalked(t *testing.T) {
	r := random(77)
	spoken := 0
	for range 4000 {
		many := []int{2, 3, 8, 64}[r.below(4)]
		l := r.chance(many, 10)
		me, quota := r.below(many), 1+r.below(64)
		l[me].Part = api.Part{} // an item behind pieces that aren't whole would be refused
		at := turn(me, r.below(quota+1))
		it, is := Say(at, l, me, quota)
		if !is {
			continue
		}
		spoken++
		it.Seq = 1000
		waiting := make([][]string, many)
		for i := range l {
			waiting[i] = messages(i, l[i])
		}
		var want []string
		for _, who := range it.L {
			want = append(want, waiting[who][0])
			waiting[who] = waiting[who][1:]
		}
		m := copied(l)
		read(t, m, me, it)
		to, left, d := Walk(at, m)
		if c, is := lane.Control(left[me]); is {
			t.Errorf("%s, said %s: left %v", told(at, l), toldItem(it), c)
		}
		if len(d) < len(want) || said(d[:len(want)]) != strings.Join(want, " ") {
			t.Errorf("%s, said %s: delivered %s, not %v", told(at, l), toldItem(it), said(d), want)
		}
		if it.Index == 0 && (to != turn(me, at.Used+len(want)) || len(d) != len(want)) {
			t.Errorf("%s, said %s: %v, %s", told(at, l), toldItem(it), to, said(d))
		}
		if next := (me + 1) % many; it.Index == 1 && len(d) == len(want) && len(left[next].L) == len(l[next].L) && to != turn(next, 0) {
			t.Errorf("%s, said %s: %v, not handed on", told(at, l), toldItem(it), to)
		}
	}
	if spoken < 500 {
		t.Error("said too seldom:", spoken)
	}
}

// P16.2, P16.3: members take turns, each says what it can when it is its turn, until nothing waits: all is delivered, each sender's in order, no more than the quota of one turn.
func TestTurns(t *testing.T) {
	for _, many := range []int{2, 5, 64} {
		for _, quota := range []int{1, 3, 64} {
			l, at := full(many, 7), turn(many-1, 0)
			count, seq, whole, of := make([]int, many), 100, 0, 0
			for who := at.Who; whole < 7*many; who = at.Who {
				it, is := Say(at, l, who, quota)
				if !is {
					t.Fatalf("%d members, quota %d: nothing to say at %d of %d", many, quota, whole, 7*many)
				}
				seq++
				it.Seq = seq
				read(t, l, who, it)
				var d []api.Deliv
				at, l, d = Walk(at, l)
				for _, x := range d {
					if string(x.B) != fmt.Sprintf(":%d", count[x.From]) {
						t.Fatalf("of %d: %s, not :%d", x.From, x.B, count[x.From])
					}
					count[x.From]++
				}
				whole += len(d)
				if of += len(d); of > quota || (of == quota) != (at.Who != who) {
					t.Fatalf("%d members, quota %d: %d of one turn, then it is %d's", many, quota, of, at.Who)
				}
				if at.Who != who {
					of = 0
				}
			}
			for who := range many {
				checkSay(t, turn(who, 0), l, who, quota, nil, 0)
			}
		}
	}
}

// The example of the chapter.
func TestExample(t *testing.T) {
	l := rows(row(message(1, "a")), row(message(1, "b")))
	checkSay(t, turn(0, 0), l, 0, 8, []int{0, 1}, 0)
	it, _ := Say(turn(0, 0), l, 0, 8)
	it.Seq = 2
	read(t, l, 0, it)
	checkWalk(t, turn(0, 0), l, turn(0, 2), rows(row(), row()), "0a 1b")
}

// roomy are lanes all of whose lists have room behind them, in which a call might write.
func roomy(l []api.Lane) []api.Lane {
	l = append(make([]api.Lane, 0, len(l)+9), copied(l)...)
	for i := range l {
		l[i].L = append(make([]api.Entry, 0, len(l[i].L)+9), l[i].L...)
		for k, e := range l[i].L {
			l[i].L[k].B = append(make([]byte, 0, len(e.B)+9), e.B...)
			l[i].L[k].L = append(make([]int, 0, len(e.L)+9), e.L...)
		}
		l[i].Part.B = append(make([]byte, 0, len(l[i].Part.B)+9), l[i].Part.B...)
	}
	return l
}

// deep are lanes as a text, with what stands in the room behind their lists.
func deep(l []api.Lane) string {
	var all []api.Lane
	for _, one := range l[:cap(l)] {
		es := slices.Clone(one.L[:cap(one.L)])
		for k := range es {
			es[k].B, es[k].L = es[k].B[:cap(es[k].B)], es[k].L[:cap(es[k].L)]
		}
		one.L, one.Part.B = es, one.Part.B[:cap(one.Part.B)]
		all = append(all, one)
	}
	return told(api.Turn{}, all)
}

// spoil writes into all memory of lanes, the room behind their lists too.
func spoil(l []api.Lane) {
	l = l[:cap(l)]
	for i := range l {
		es := l[i].L[:cap(l[i].L)]
		for k := range es {
			spoilRows(es[k].B, es[k].L)
			es[k] = api.Entry{Kind: -1, Seq: -1}
		}
		spoilRows(l[i].Part.B, nil)
		l[i] = api.Lane{Part: api.Part{Seq: -1}}
	}
}

// spoilRows writes into bytes and numbers, and the room behind them.
func spoilRows(b []byte, l []int) {
	for i := range b[:cap(b)] {
		b[:cap(b)][i] = '!'
	}
	for i := range l[:cap(l)] {
		l[:cap(l)][i] = -7
	}
}

// R3, R4: what is handed in stays as it was, also where what is told is changed afterwards; and the other way round.
func TestNothingIsShared(t *testing.T) {
	r := random(9)
	for i := range 500 {
		many := []int{2, 3, 9}[r.below(3)]
		l := roomy(r.chance(many, 8))
		at := turn(r.below(many), r.below(4))
		if i%5 == 0 { // nothing to say is walked too
			l[at.Who].L = nil
		}
		was := deep(l)
		b, m, d := Walk(at, l)
		it, _ := Say(at, l, at.Who, 6)
		wantLanes, wantSaid, wantItem := told(b, m), said(d), toldItem(it)
		b2, m2, d2 := Walk(at, l)
		if told(b2, m2) != wantLanes || said(d2) != wantSaid {
			t.Fatal("another answer at the same arguments")
		}
		spoil(m2)
		for _, x := range d2 {
			spoilRows(x.B, nil)
		}
		it2, _ := Say(at, l, at.Who, 6)
		spoilRows(it2.Body, it2.L)
		if deep(l) != was {
			t.Fatalf("handed in: %s, now %s", was, deep(l))
		}
		if told(b, m) != wantLanes || said(d) != wantSaid || toldItem(it) != wantItem {
			t.Fatal("what was told is turned by what is told later")
		}
		for k := range d { // what was delivered and the lanes stand alone, too
			spoilRows(d[k].B, nil)
		}
		if told(b, m) != wantLanes {
			t.Fatal("lanes share memory with what was delivered")
		}
		spoil(l)
		if told(b, m) != wantLanes || toldItem(it) != wantItem {
			t.Fatal("what was told is turned with what was handed in")
		}
	}
}

// R3: what was delivered stays, whatever becomes of the lanes that were handed in and of those that were told.
func TestDeliveredStays(t *testing.T) {
	r := random(10)
	for range 300 {
		l := roomy(r.chance(3, 9))
		_, m, d := Walk(turn(r.below(3), 0), l)
		was := said(d)
		spoil(m)
		spoil(l)
		if said(d) != was {
			t.Fatalf("%q, now %q", was, said(d))
		}
	}
}

// R1: calls end, and none panics, also where nothing is promised.
func TestNoPanic(t *testing.T) {
	odd := []int{math.MinInt, -65, -1, 0, 1, 2, 3, 63, 64, 65, math.MaxInt}
	wrong := []api.Lane{
		row(order(1, true, 64, 70)), row(order(1, true, -1)), row(order(0, false, 9, 9)), row(order(-3, true)), row(order(-3, true, 1)),
		row(order(1, false, 1), order(1, false, 1)), row(message(2, "a"), order(2, true, 0, 1)), row(order(2, true, 0), message(2, "a")), row(token(5), message(4, "x"), order(3, true, 1)),
		row(api.Entry{Kind: 9, Seq: 1, L: []int{0}, Hand: true}), row(api.Entry{Kind: api.IToken, Seq: 1, L: []int{1}, Hand: true}), row(api.Entry{}),
		{Part: api.Part{Seq: math.MinInt, Total: -1, Got: 99}},
		row(), row(message(math.MaxInt, "")), row(order(math.MaxInt, true, 63, 1, 0)),
	}
	sets := [][]api.Lane{nil, {}, full(1, 2), full(65, 1), full(200, 1)}
	for _, a := range wrong {
		sets = append(sets, rows(a), rows(a, row(message(1, "m"), message(2, "n"))))
		for _, b := range wrong {
			sets = append(sets, rows(a, b), rows(a, row(order(1, true, 0, 1)), b))
		}
	}
	for _, l := range sets {
		for _, who := range odd {
			for _, used := range odd {
				Walk(turn(who, used), l)
			}
			for _, quota := range odd {
				Say(turn(who, 0), l, who, quota)
				Say(turn(who, quota), l, who, 1)
				Say(turn(0, quota), l, 0, who)
				Say(turn(who, quota), l, 1, math.MinInt)
			}
		}
	}
}
