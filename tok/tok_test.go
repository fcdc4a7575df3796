package tok

import (
	"bytes"
	"fmt"
	"math"
	"slices"
	"strings"
	"testing"

	"precentor/api"
	"precentor/item"
	"precentor/lane"
)

// message, order and token are entries.
func message(seq int, b string) api.Entry {
	return api.Entry{Kind: api.IData, Seq: seq, B: []byte(b)}
}

func order(seq int, hand bool, l ...int) api.Entry {
	return api.Entry{Kind: api.IOrder, Seq: seq, L: l, Hand: hand}
}

func token(seq int) api.Entry {
	return api.Entry{Kind: api.IToken, Seq: seq}
}

// row is a lane of entries, with nothing under way.
func row(l ...api.Entry) api.Lane {
	return api.Lane{L: l}
}

// under is a lane with a message under way behind its entries.
func under(seq int, b string, l ...api.Entry) api.Lane {
	return api.Lane{L: l, Part: api.Part{Seq: seq, Total: 3, Got: 2, B: []byte(b)}}
}

// rows are lanes.
func rows(l ...api.Lane) []api.Lane { return l }

// turn is a turn.
func turn(who, used int) api.Turn { return api.Turn{Who: who, Used: used} }

// toldLane is a lane as a text: that of another one only if they are the same.
func toldLane(l api.Lane) string {
	var out strings.Builder
	for _, e := range l.L {
		fmt.Fprintf(&out, "(%d %d %x %v %t)", e.Kind, e.Seq, e.B, e.L, e.Hand)
	}
	fmt.Fprintf(&out, "[%d %d %d %x]", l.Part.Seq, l.Part.Total, l.Part.Got, l.Part.B)
	return out.String()
}

// told is a turn and lanes as a text.
func told(t api.Turn, l []api.Lane) string {
	var out strings.Builder
	fmt.Fprintf(&out, "%d %d: %d lanes", t.Who, t.Used, len(l))
	for _, one := range l {
		out.WriteString(" " + toldLane(one))
	}
	return out.String()
}

// said is what was delivered, as a text: of each message who sent it, and its bytes.
func said(l []api.Deliv) string {
	out := []string{}
	for _, d := range l {
		out = append(out, fmt.Sprintf("%d%s", d.From, d.B))
	}
	return strings.Join(out, " ")
}

// toldItem is an item as a text.
func toldItem(it api.Item) string {
	return fmt.Sprintf("%d %d %d %d %d %d %v %x", it.Kind, it.Seq, it.Epoch, it.Index, it.Total, it.Count, it.L, it.Body)
}

// copied are lanes with memory of their own.
func copied(l []api.Lane) []api.Lane {
	l = slices.Clone(l)
	for i := range l {
		l[i].L = slices.Clone(l[i].L)
		for k := range l[i].L {
			l[i].L[k].B, l[i].L[k].L = bytes.Clone(l[i].L[k].B), slices.Clone(l[i].L[k].L)
		}
		l[i].Part.B = bytes.Clone(l[i].Part.B)
	}
	return l
}

// checkWalk: does a walk come to that turn and those lanes, and deliver that? What is handed in stays, and what comes is right.
func checkWalk(t *testing.T, at api.Turn, l []api.Lane, to api.Turn, left []api.Lane, out string) {
	t.Helper()
	was := told(at, l)
	wrong := func(one api.Lane) bool { return !lane.Right(one) }
	if slices.ContainsFunc(l, wrong) {
		t.Errorf("nothing is promised of %s", was)
	}
	b, m, d := Walk(at, l)
	if told(b, m) != told(to, left) || said(d) != out {
		t.Errorf("Walk of %s:\n%s, %q, not\n%s, %q", was, told(b, m), said(d), told(to, left), out)
	}
	if told(at, l) != was {
		t.Errorf("Walk of %s: it is %s now", was, told(at, l))
	}
	if slices.ContainsFunc(m, wrong) {
		t.Errorf("Walk of %s: a lane isn't right: %s", was, told(b, m))
	}
}

// P17.1: nothing in Who's lane: all is as it was, whatever waits in the others.
func TestWalkNothing(t *testing.T) {
	for _, other := range []api.Lane{
		row(), row(message(1, "a")), row(token(1)), row(order(1, true, 0)), row(order(3, false)),
		row(token(1), message(2, "b"), token(3)), under(4, "xy", message(1, "a"), order(2, true, 1)), under(1, ""),
	} {
		for _, used := range []int{0, 1, 64, 1 << 60} {
			for _, mine := range []api.Lane{row(), under(3, "xy")} {
				checkWalk(t, turn(0, used), rows(mine, other), turn(0, used), rows(mine, other), "")
				checkWalk(t, turn(1, used), rows(other, mine, other), turn(1, used), rows(other, mine, other), "")
				checkWalk(t, turn(2, used), rows(other, other, mine), turn(2, used), rows(other, other, mine), "")
			}
		}
	}
}

// P17.1: one lane alone, each case written out; the next member has a message, by which is seen whose turn it is.
func TestWalkOneLane(t *testing.T) {
	a, b, c := message(11, "a"), message(12, "b"), message(13, "c")
	for _, x := range []struct {
		l, left api.Lane
		to      api.Turn
		out     string
	}{
		// messages
		{row(a), row(), turn(0, 8), "0a"},
		{row(a, b), row(), turn(0, 9), "0a 0b"},
		{row(a, b, c), row(), turn(0, 10), "0a 0b 0c"},
		{row(message(2, "c"), message(7, "a"), message(9, "b")), row(), turn(0, 10), "0c 0a 0b"},
		{row(message(2, "")), row(), turn(0, 8), "0"},
		{under(20, "xy", a), under(20, "xy"), turn(0, 8), "0a"},
		// orders: nothing more than that they are taken away
		{row(order(1, false)), row(), turn(0, 7), ""},
		{row(order(1, true)), row(), turn(0, 7), ""},
		{row(order(1, false, 0)), row(), turn(0, 7), ""},
		{row(order(1, true, 1)), row(), turn(0, 7), ""},
		{row(order(1, true, 1, 1, 0, 63)), row(), turn(0, 7), ""},
		{row(order(1, true), order(2, false), order(3, true, 1)), row(), turn(0, 7), ""},
		{under(20, "xy", order(1, true, 1)), under(20, "xy"), turn(0, 7), ""},
		// tokens
		{row(token(1)), row(), turn(1, 1), "1y"},
		{under(20, "xy", token(1)), under(20, "xy"), turn(1, 1), "1y"},
		{row(token(1), token(2)), row(token(2)), turn(1, 1), "1y"},
		// messages ahead of a token, and behind it
		{row(a, token(12)), row(), turn(1, 1), "0a 1y"},
		{row(a, b, token(13)), row(), turn(1, 1), "0a 0b 1y"},
		{row(token(10), a), row(a), turn(1, 1), "1y"},
		{row(message(9, "z"), token(10), a, b, c), row(a, b, c), turn(1, 1), "0z 1y"},
		// orders ahead of messages, between them, and behind them
		{row(order(10, true, 1), a), row(), turn(0, 8), "0a"},
		{row(message(9, "z"), order(10, true, 1), a), row(), turn(0, 9), "0z 0a"},
		{row(a, b, order(13, true, 1)), row(), turn(0, 9), "0a 0b"},
		{row(order(1, false), a, order(12, true, 0), c, order(14, false, 1)), row(), turn(0, 9), "0a 0c"},
		// and of tokens
		{row(order(1, true), token(2)), row(), turn(1, 1), "1y"},
		{row(order(1, false, 0, 1), token(2), order(3, true, 1)), row(order(3, true, 1)), turn(1, 1), "1y"},
		{row(token(2), order(3, false)), row(order(3, false)), turn(1, 1), "1y"},
		{row(order(5, true, 1), a, order(12, false), token(13), order(14, true), message(15, "d"), token(16)), row(order(14, true), message(15, "d"), token(16)), turn(1, 1), "0a 1y"},
	} {
		l, left := rows(x.l, row(message(4, "y"))), rows(x.left, row())
		if x.to.Who == 0 {
			left[1] = l[1]
		}
		checkWalk(t, turn(0, 7), l, x.to, left, x.out)
	}
}

// P17.1: several lanes, each case written out.
func TestWalkLanes(t *testing.T) {
	a, b, c, d := message(1, "a"), message(2, "b"), message(3, "c"), message(4, "d")
	for _, x := range []struct {
		at   api.Turn
		l    []api.Lane
		to   api.Turn
		left []api.Lane
		out  string
	}{
		// who has no turn isn't heard, whatever is ahead
		{turn(0, 0), rows(row(a), row(b, token(3), d)), turn(0, 1), rows(row(), row(b, token(3), d)), "0a"},
		{turn(1, 0), rows(row(a), row(b)), turn(1, 1), rows(row(a), row()), "1b"},
		{turn(1, 5), rows(row(a), row(token(4)), row(c)), turn(2, 1), rows(row(a), row(), row()), "2c"},
		// behind the last one comes member 0
		{turn(1, 5), rows(row(a), row(token(4), message(5, "d"))), turn(0, 1), rows(row(), row(message(5, "d"))), "0a"},
		{turn(2, 5), rows(row(a), row(b), row(token(4))), turn(0, 1), rows(row(), row(b), row()), "0a"},
		// through all lanes, and around to the first one again
		{turn(0, 3), rows(row(token(1)), row(token(1))), turn(0, 0), rows(row(), row()), ""},
		{turn(0, 3), rows(row(a, token(2), c), row(b, token(3))), turn(0, 1), rows(row(), row()), "0a 1b 0c"},
		{turn(1, 3), rows(row(a, token(2), c, token(4)), row(b, token(3), d, token(5))), turn(1, 0), rows(row(), row()), "1b 0a 1d 0c"},
		{turn(0, 3), rows(row(token(1), token(2), token(3)), row(token(1), token(2))), turn(1, 0), rows(row(), row()), ""},
		{turn(2, 3), rows(row(token(1), named(3)), row(named(1), token(2), named(5)), row(token(1), named(4))), turn(2, 1), rows(row(named(3)), row(named(5)), row()), "1n1 2n4"},
		// it ends in a lane in the midst, others' tokens and messages stay in their order
		{turn(0, 3), rows(row(a, token(2), token(3)), row(), row(b, token(3))), turn(1, 0), rows(row(token(3)), row(), row(b, token(3))), "0a"},
		{turn(0, 3), rows(row(a, token(2)), row(order(5, true, 0, 2)), row(b, token(3), d)), turn(1, 0), rows(row(), row(), row(b, token(3), d)), "0a"},
		// messages under way stay, in lanes that are walked and in others
		{turn(0, 3), rows(under(5, "p", a, token(2)), under(6, "q", b), under(7, "r", c)), turn(1, 1), rows(under(5, "p"), under(6, "q"), under(7, "r", c)), "0a 1b"},
	} {
		checkWalk(t, x.at, x.l, x.to, x.left, x.out)
	}
}

// named is a message that tells its number.
func named(seq int) api.Entry { return message(seq, fmt.Sprint("n", seq)) }

// P17.1: a token makes it the next member's turn, with nothing used, of each number of members.
func TestWalkNext(t *testing.T) {
	for many := 2; many <= 64; many++ {
		for who := range many {
			l, left := make([]api.Lane, many), make([]api.Lane, many)
			l[who] = row(message(1, "a"), token(2), message(3, "b"))
			left[who] = row(message(3, "b"))
			next := who + 1
			if who == many-1 {
				next = 0
			}
			checkWalk(t, turn(who, 5), l, turn(next, 0), left, fmt.Sprintf("%da", who))
			l[who] = row(order(1, true, next, who), message(2, "a"), order(3, true), order(4, true, 0))
			left[who] = row()
			checkWalk(t, turn(who, 5), l, turn(who, 6), left, fmt.Sprintf("%da", who))
		}
	}
}

// P17.1: Used is one more for each message that is delivered, and for nothing else, from whatever it was; and it counts anew behind a token.
func TestWalkUsed(t *testing.T) {
	for _, used := range []int{0, 1, 63, 64, 65, 1 << 20, 1 << 60} {
		for many := range 70 {
			mine := row(order(1, true, 1), order(2, false))
			for i := range many {
				mine.L = append(mine.L, message(2*i+3, "x"), order(2*i+4, i%2 == 0, 0, 1))
			}
			b, m, d := Walk(turn(0, used), rows(mine, row(token(1))))
			if b != turn(0, used+many) || len(d) != many || len(m[0].L) != 0 || len(m[1].L) != 1 {
				t.Errorf("%d messages from Used %d on: %v, %d delivered", many, used, b, len(d))
			}
			b, m, d = Walk(turn(1, used), rows(mine, row(message(1, "y"), token(2))))
			if b != turn(0, many) || len(d) != many+1 || len(m[0].L)+len(m[1].L) != 0 {
				t.Errorf("%d messages behind a token: %v, %d delivered", many, b, len(d))
			}
		}
	}
}

// P17.1: a walk goes on in the next member's lane, through all members and around, as often as there are tokens.
func TestWalkAround(t *testing.T) {
	for _, many := range []int{2, 3, 17, 64} {
		for _, who := range []int{0, 1, many - 1} {
			l, left := make([]api.Lane, many), make([]api.Lane, many)
			var want []string
			for k := range 4 {
				for i := range many {
					at := (who + i) % many
					seq := 10 * k
					for n := range (at + k) % 3 {
						b := fmt.Sprintf(":%d.%d", k, n)
						l[at].L = append(l[at].L, message(seq+n+1, b))
						want = append(want, fmt.Sprint(at, b))
					}
					l[at].L = append(l[at].L, order(seq+4, true, i), token(seq+5))
				}
			}
			checkWalk(t, turn(who, 3), l, turn(who, 0), left, strings.Join(want, " "))
			if t.Failed() {
				return
			}
		}
	}
}

// model walks another way: over texts of the lanes' entries, by places, without taking anything away.
func model(at api.Turn, l []api.Lane) (api.Turn, []api.Lane, string) {
	var out []string
	place := make([]int, len(l))
	for place[at.Who] < len(l[at.Who].L) {
		e := l[at.Who].L[place[at.Who]]
		place[at.Who]++
		switch {
		case e.Kind == api.IData:
			out = append(out, fmt.Sprintf("%d%s", at.Who, e.B))
			at.Used++
		case e.Kind == api.IToken && at.Who == len(l)-1:
			at = turn(0, 0)
		case e.Kind == api.IToken:
			at = turn(at.Who+1, 0)
		}
	}
	left := slices.Clone(l)
	for i := range left {
		left[i].L = left[i].L[place[i]:]
	}
	return at, left, strings.Join(out, " ")
}

// checkModel: does a walk do what the model does?
func checkModel(t *testing.T, at api.Turn, l []api.Lane) {
	t.Helper()
	to, left, out := model(at, l)
	checkWalk(t, at, l, to, left, out)
}

// kinds are entries of all kinds, whose numbers are to be set.
func kinds() []api.Entry {
	return []api.Entry{message(0, "x"), token(0), order(0, false), order(0, true), order(0, false, 0), order(0, true, 1), order(0, true, 0, 63)}
}

// short are all lanes of up to so many entries of all kinds; each message has bytes of its own.
func short(most int) []api.Lane {
	all, last := []api.Lane{{}}, []api.Lane{{}}
	for range most {
		var next []api.Lane
		for _, l := range last {
			for _, e := range kinds() {
				e.Seq = 2*len(l.L) + 1
				if e.Kind == api.IData {
					e.B = []byte(fmt.Sprint("m", e.Seq))
				}
				next = append(next, row(append(slices.Clone(l.L), e)...))
			}
		}
		all, last = append(all, next...), next
	}
	return all
}

// P17.1: everything small: two lanes of up to two entries, and one of up to four beside some that are set.
func TestWalkEverythingSmall(t *testing.T) {
	for _, a := range short(2) {
		for _, b := range short(2) {
			for who := range 2 {
				checkModel(t, turn(who, 3), rows(a, b))
			}
		}
	}
	for _, a := range short(4) {
		for _, b := range []api.Lane{row(), row(message(1, "b"), token(2), message(3, "c"), token(4))} {
			checkModel(t, turn(0, 0), rows(a, b))
			checkModel(t, turn(2, 1), rows(b, row(token(1), order(2, true, 2), message(3, "z"), token(4)), a))
		}
	}
}

// random are numbers that look as if they came by chance, and are the same each time.
type random uint64

func (r *random) below(n int) int {
	*r = *r*6364136223846793005 + 1442695040888963407
	return int(uint64(*r) >> 33 % uint64(n))
}

// chance are lanes of up to so many entries, that are right.
func (r *random) chance(many, most int) []api.Lane {
	l := make([]api.Lane, many)
	for i := range l {
		seq := 0
		for range r.below(most + 1) {
			seq += 1 + r.below(3)
			l[i].L = append(l[i].L, r.entry(seq, many, fmt.Sprintf(":%d.", seq)))
		}
		if r.below(4) == 0 {
			l[i].Part = api.Part{Seq: seq + 1, Total: 2 + r.below(31), Got: 1, B: []byte("part")}
		}
	}
	return l
}

// entry is an entry of any kind, most often a message or a token.
func (r *random) entry(seq, many int, b string) api.Entry {
	switch r.below(8) {
	case 0, 1, 2:
		return token(seq)
	case 3:
		var l []int
		for range r.below(5) {
			l = append(l, r.below(64))
		}
		return order(seq, r.below(2) > 0, l...)
	}
	return message(seq, b)
}

// P17.1: walks of lanes of all numbers of members, with many entries.
func TestWalkByChance(t *testing.T) {
	r := random(17)
	for range 800 {
		many := []int{2, 2, 3, 4, 9, 64}[r.below(6)]
		checkModel(t, turn(r.below(many), r.below(100)), r.chance(many, []int{3, 12, 40}[r.below(3)]))
	}
}

// checkSpeaks: may me send a message, and is a token said? What is handed in stays.
func checkSpeaks(t *testing.T, at api.Turn, l []api.Lane, me, quota int, may, says bool) {
	t.Helper()
	was := told(at, l)
	if is := May(at, l, me, quota); is != may {
		t.Errorf("May of %s, %d, quota %d: %t", was, me, quota, is)
	}
	var want api.Item
	if says {
		want.Kind = api.IToken
	}
	if it, is := Say(at, l, me); is != says || toldItem(it) != toldItem(want) {
		t.Errorf("Say of %s, %d: %s, %t", was, me, toldItem(it), is)
	}
	if told(at, l) != was {
		t.Errorf("%s: it is %s now", was, told(at, l))
	}
}

// P17.2: each case written out.
func TestMayAndSay(t *testing.T) {
	full := row(message(1, "a"), token(2), order(3, true, 0))
	for _, x := range []struct {
		at        api.Turn
		l         []api.Lane
		me, quota int
		may, says bool
	}{
		// me's turn, and nothing in its lane
		{turn(0, 0), rows(row(), row()), 0, 8, true, true},
		{turn(1, 0), rows(row(), row()), 1, 8, true, true},
		{turn(0, 0), rows(row(), full), 0, 8, true, true},
		{turn(1, 0), rows(full, row()), 1, 8, true, true},
		{turn(1, 0), rows(full, row(), full), 1, 8, true, true},
		// a message under way is no entry
		{turn(0, 0), rows(under(4, "abc"), row()), 0, 8, true, true},
		{turn(1, 0), rows(full, under(4, "")), 1, 8, true, true},
		// the turn is another one's
		{turn(1, 0), rows(row(), row()), 0, 8, false, false},
		{turn(0, 0), rows(row(), row()), 1, 8, false, false},
		{turn(1, 0), rows(row(), full), 0, 8, false, false},
		{turn(2, 0), rows(row(), row(), row()), 0, 8, false, false},
		{turn(0, 0), rows(row(), row(), row()), 2, 8, false, false},
		// an entry in me's lane, of each kind, in any place
		{turn(0, 0), rows(row(message(1, "a")), row()), 0, 8, false, false},
		{turn(0, 0), rows(row(message(1, "")), row()), 0, 8, false, false},
		{turn(0, 0), rows(row(token(1)), row()), 0, 8, false, false},
		{turn(0, 0), rows(row(order(1, false)), row()), 0, 8, false, false},
		{turn(0, 0), rows(row(order(1, true, 1)), row()), 0, 8, false, false},
		{turn(1, 0), rows(row(), full), 1, 8, false, false},
		{turn(1, 0), rows(row(), under(9, "xy", full.L...)), 1, 8, false, false},
		// and both
		{turn(1, 0), rows(full, row()), 0, 8, false, false},
		// one below the quota, at it, and above: that is nothing to Say
		{turn(0, 7), rows(row(), row()), 0, 8, true, true},
		{turn(0, 8), rows(row(), row()), 0, 8, false, true},
		{turn(0, 9), rows(row(), row()), 0, 8, false, true},
		{turn(0, 1<<60), rows(row(), row()), 0, 8, false, true},
		{turn(0, 0), rows(row(), row()), 0, 1, true, true},
		{turn(0, 1), rows(row(), row()), 0, 1, false, true},
		{turn(0, 2), rows(row(), row()), 0, 1, false, true},
		{turn(1, 63), rows(full, row()), 1, 64, true, true},
		{turn(1, 64), rows(full, row()), 1, 64, false, true},
		{turn(1, 65), rows(full, row()), 1, 64, false, true},
		{turn(1, 1<<60), rows(full, row()), 1, 64, false, true},
		{turn(1, 64), rows(full, full), 1, 64, false, false},
		{turn(1, 64), rows(row(), row()), 0, 64, false, false},
	} {
		checkSpeaks(t, x.at, x.l, x.me, x.quota, x.may, x.says)
	}
}

// P17.2: everything small: two lanes, whoever asks, whosever turn it is, with little quotas.
func TestMayAndSayEverythingSmall(t *testing.T) {
	for _, a := range short(2) {
		for _, b := range short(1) {
			for k := range 2 * 2 * 5 * 3 * 2 {
				who, me, used, quota := k%2, k/2%2, k/4%5, 1+k/20%3
				l := rows(a, b)
				if k >= 60 {
					l = rows(b, a)
				}
				says := who == me && len(l[me].L) == 0
				checkSpeaks(t, turn(who, used), l, me, quota, says && used < quota, says)
			}
		}
	}
}

// P17.2: all quotas, whatever is used of them, of two members and of 64; what is said is an item that may be, once it has a number.
func TestMayQuotas(t *testing.T) {
	for _, many := range []int{2, 3, 64} {
		l := make([]api.Lane, many)
		for quota := 1; quota <= 64; quota++ {
			for used := range 70 {
				for _, me := range []int{0, 1, many - 1} {
					checkSpeaks(t, turn(me, used), l, me, quota, used < quota, true)
					checkSpeaks(t, turn((me+1)%many, used), l, me, quota, false, false)
				}
			}
		}
		it, _ := Say(turn(1, 0), l, 1)
		if it.Seq++; !item.May(it) {
			t.Error("may not be:", toldItem(it))
		}
	}
}

// P17.2: of all members just whose turn it is may send, and says a token.
func TestMayAlone(t *testing.T) {
	for many := 2; many <= 64; many++ {
		l := make([]api.Lane, many)
		for who := 0; who < many; who += 1 + many/9 {
			for me := range many {
				checkSpeaks(t, turn(who, 3), l, me, 4, me == who, me == who)
			}
		}
	}
}

// messages are the messages of a lane, as a text of each.
func messages(who int, l api.Lane) []string {
	var out []string
	for _, e := range l.L {
		if e.Kind == api.IData {
			out = append(out, fmt.Sprintf("%d%s", who, e.B))
		}
	}
	return out
}

// P17.3: lanes stay right; what is delivered of a member are its messages, in order, and the others are left; nothing under way is touched.
func TestDeliveredInOrder(t *testing.T) {
	r := random(173)
	for range 1000 {
		many := []int{2, 2, 3, 3, 5, 5, 8, 64}[r.below(8)]
		l := r.chance(many, 20)
		at, m, d := Walk(turn(r.below(many), r.below(10)), l)
		if len(m) != many || at.Who < 0 || at.Who >= many {
			t.Fatal(at, len(m))
		}
		if len(m[at.Who].L) != 0 {
			t.Errorf("%s: it isn't at its end", told(at, m))
		}
		for i := range l {
			var of []string
			for _, x := range d {
				if x.From == i {
					of = append(of, fmt.Sprintf("%d%s", i, x.B))
				}
			}
			if !slices.Equal(append(of, messages(i, m[i])...), messages(i, l[i])) {
				t.Errorf("%d of %s: delivered %v, left %s", i, toldLane(l[i]), of, toldLane(m[i]))
			}
			if !lane.Right(m[i]) || fmt.Sprint(m[i].Part) != fmt.Sprint(l[i].Part) {
				t.Error(toldLane(m[i]))
			}
			behind := l[i].L[len(l[i].L)-len(m[i].L):]
			if toldLane(row(behind...)) != toldLane(row(m[i].L...)) {
				t.Errorf("%s: left %s", toldLane(l[i]), toldLane(m[i]))
			}
		}
		again, n, none := Walk(at, m) // behind a walk there is nothing more
		if told(again, n) != told(at, m) || len(none) > 0 {
			t.Errorf("%s: walked again %s, %s", told(at, m), told(again, n), said(none))
		}
	}
}

// P17.3: what is delivered is, turn by turn, what each member's lane tells up to its next token.
func TestTurnByTurn(t *testing.T) {
	r := random(1703)
	for range 500 {
		many := []int{2, 3, 7, 64}[r.below(4)]
		l := r.chance(many, 15)
		who := r.below(many)
		turns := make([][]string, many) // of each member what it tells of a turn, as a text each; the last one is open
		for i := range l {
			turns[i] = []string{""}
			for _, e := range l[i].L {
				last := &turns[i][len(turns[i])-1]
				switch e.Kind {
				case api.IData:
					*last += fmt.Sprintf(" %d%s", i, e.B)
				case api.IToken:
					turns[i] = append(turns[i], "")
				}
			}
		}
		want, i, round := "", who, 0
		for {
			want += turns[i][round]
			if round == len(turns[i])-1 {
				break
			}
			if i = (i + 1) % many; i == who {
				round++
			}
		}
		at, _, d := Walk(turn(who, 0), l)
		if at.Who != i || said(d) != strings.TrimPrefix(want, " ") {
			t.Errorf("%s: %v, %s, not %d, %s", told(turn(who, 0), l), at, said(d), i, want)
		}
	}
}

// stream is the items of a stream, numbered from 1 on.
func (r *random) stream(many, most int) []api.Item {
	var its []api.Item
	for range r.below(most + 1) {
		seq := len(its) + 1
		switch e := r.entry(seq, many, fmt.Sprintf(":%d.", seq)); e.Kind {
		case api.IToken:
			its = append(its, api.Item{Kind: api.IToken, Seq: seq})
		case api.IOrder:
			it := api.Item{Kind: api.IOrder, Seq: seq, L: e.L}
			if e.Hand {
				it.Index = 1
			}
			its = append(its, it)
		default:
			total := 1 + r.below(3)
			for i := range total {
				its = append(its, api.Item{Kind: api.IData, Seq: seq + i, Index: i, Total: total, Body: e.B})
			}
		}
	}
	return its
}

// read reads an item of a lane.
func read(t *testing.T, l []api.Lane, who int, it api.Item) {
	t.Helper()
	var code api.Errno
	if l[who], code = lane.Read(l[who], it); code != api.OK {
		t.Fatalf("Read of %s, %s: %d", toldLane(l[who]), toldItem(it), code)
	}
}

// P17.3: items come in any turns of the streams, and the walk is cut anywhere: what is delivered is the same as at once, and so is what is left.
func TestWalkInParts(t *testing.T) {
	r := random(5)
	for range 300 {
		many := []int{2, 3, 3, 6, 6, 6, 9, 64}[r.below(8)]
		streams, l := make([][]api.Item, many), make([]api.Lane, many)
		at := turn(r.below(many), r.below(5))
		for i := range streams {
			streams[i] = r.stream(many, 12)
			for _, it := range streams[i] {
				read(t, l, i, it)
			}
		}
		once, left, all := Walk(at, l)
		for _, often := range []int{1, 3, 20} {
			now, m, out, next := at, make([]api.Lane, many), []api.Deliv(nil), make([]int, many)
			for {
				var open []int
				for i := range streams {
					if next[i] < len(streams[i]) {
						open = append(open, i)
					}
				}
				if len(open) == 0 {
					break
				}
				who := open[r.below(len(open))]
				read(t, m, who, streams[who][next[who]])
				next[who]++
				if r.below(often) == 0 {
					var d []api.Deliv
					now, m, d = Walk(now, m)
					out = append(out, d...)
				}
			}
			now, m, d := Walk(now, m)
			if out = append(out, d...); said(out) != said(all) || told(now, m) != told(once, left) {
				t.Fatalf("in parts %s, %q, at once %s, %q", told(now, m), said(out), told(once, left), said(all))
			}
		}
	}
}

// P17.2, P17.3: the token that Say tells is read as the next item of me's lane, and walked: the turn is the next member's, with nothing used of it, and its messages follow.
func TestSaidIsWalked(t *testing.T) {
	r := random(77)
	for many := 2; many <= 64; many++ {
		for range 20 {
			l := r.chance(many, 4)
			me := r.below(many)
			l[me] = api.Lane{}
			at := turn(me, r.below(70))
			it, is := Say(at, l, me)
			if !is {
				t.Fatalf("%s: nothing is said", told(at, l))
			}
			it.Seq = 1 + r.below(9)
			m := copied(l)
			read(t, m, me, it)
			next := (me + 1) % many
			wantTurn, wantLeft, wantOut := model(turn(next, 0), l)
			checkWalk(t, at, m, wantTurn, wantLeft, wantOut)
			for i := range m {
				if i != me {
					m[i] = row()
				}
			}
			checkWalk(t, at, m, turn(next, 0), make([]api.Lane, many), "")
		}
	}
}

// P17.2, P17.3: each member sends what it may while it is its turn, and hands the token on then: all is delivered turn by turn, no more than the quota of one.
func TestTurns(t *testing.T) {
	for _, many := range []int{2, 5, 64} {
		for _, quota := range []int{1, 3, 64} {
			l, at := make([]api.Lane, many), turn(many-1, 0)
			seq, sent, got, turns := make([]int, many), make([]int, many), []string{}, 0
			want := []string{}
			for ; turns < 3*many; turns++ {
				who, n := at.Who, 0
				if wanted := (many - 1 + turns) % many; who != wanted || at.Used != 0 {
					t.Fatalf("%d members, quota %d, turn %d: %v", many, quota, turns, at)
				}
				for ; May(at, l, who, quota); n++ {
					for other := range many {
						if other != who && May(at, l, other, quota) {
							t.Fatalf("%d and %d may at once", who, other)
						}
					}
					seq[who]++
					sent[who]++
					b := fmt.Sprintf(":%d", sent[who])
					read(t, l, who, api.Item{Kind: api.IData, Seq: seq[who], Total: 1, Body: []byte(b)})
					if May(at, l, who, quota) {
						t.Fatal("may with an entry that isn't walked")
					}
					var d []api.Deliv
					at, l, d = Walk(at, l)
					want, got = append(want, fmt.Sprint(who, b)), append(got, said(d))
				}
				if n != quota {
					t.Fatalf("%d members, quota %d: %d of a turn", many, quota, n)
				}
				it, is := Say(at, l, who)
				if !is {
					t.Fatalf("%d members, quota %d: nothing is said at the end of a turn", many, quota)
				}
				seq[who]++
				it.Seq = seq[who]
				read(t, l, who, it)
				var d []api.Deliv
				if at, l, d = Walk(at, l); len(d) > 0 {
					t.Fatal(said(d))
				}
			}
			if len(want) != 3*many*quota || strings.Join(got, " ") != strings.Join(want, " ") {
				t.Fatalf("%d members, quota %d: %v, not %v", many, quota, got, want)
			}
		}
	}
}

// The example of the chapter.
func TestExample(t *testing.T) {
	checkWalk(t, turn(0, 0), rows(row(message(1, "a"), token(2)), row(message(1, "b"))), turn(1, 1), rows(row(), row()), "0a 1b")
}

// roomy are lanes all of whose lists have room behind them, in which a call might write.
func roomy(l []api.Lane) []api.Lane {
	l = append(make([]api.Lane, 0, len(l)+9), copied(l)...)
	for i := range l {
		l[i].L = append(make([]api.Entry, 0, len(l[i].L)+9), l[i].L...)
		for k, e := range l[i].L {
			l[i].L[k].B = append(make([]byte, 0, len(e.B)+9), e.B...)
			l[i].L[k].L = append(make([]int, 0, len(e.L)+9), e.L...)
		}
		l[i].Part.B = append(make([]byte, 0, len(l[i].Part.B)+9), l[i].Part.B...)
	}
	return l
}

// deep are lanes as a text, with what stands in the room behind their lists.
func deep(l []api.Lane) string {
	var all []api.Lane
	for _, one := range l[:cap(l)] {
		es := slices.Clone(one.L[:cap(one.L)])
		for k := range es {
			es[k].B, es[k].L = es[k].B[:cap(es[k].B)], es[k].L[:cap(es[k].L)]
		}
		one.L, one.Part.B = es, one.Part.B[:cap(one.Part.B)]
		all = append(all, one)
	}
	return told(api.Turn{}, all)
}

// spoil writes into all memory of lanes, the room behind their lists too.
func spoil(l []api.Lane) {
	l = l[:cap(l)]
	for i := range l {
		es := l[i].L[:cap(l[i].L)]
		for k := range es {
			spoilRows(es[k].B, es[k].L)
			es[k] = api.Entry{Kind: -1, Seq: -1}
		}
		spoilRows(l[i].Part.B, nil)
		l[i] = api.Lane{Part: api.Part{Seq: -1}}
	}
}

// spoilRows writes into bytes and numbers, and the room behind them.
func spoilRows(b []byte, l []int) {
	for i := range b[:cap(b)] {
		b[:cap(b)][i] = '!'
	}
	for i := range l[:cap(l)] {
		l[:cap(l)][i] = -7
	}
}

// R3, R4: what is handed in stays as it was, also where what is told is changed afterwards; and the other way round.
func TestNothingIsShared(t *testing.T) {
	r := random(9)
	for i := range 500 {
		many := []int{2, 3, 9}[r.below(3)]
		l := roomy(r.chance(many, 8))
		at := turn(r.below(many), r.below(4))
		if i%5 == 0 { // nothing to say is walked too
			l[at.Who].L = nil
		}
		was := deep(l)
		b, m, d := Walk(at, l)
		wantLanes, wantSaid := told(b, m), said(d)
		b2, m2, d2 := Walk(at, l)
		if told(b2, m2) != wantLanes || said(d2) != wantSaid {
			t.Fatal("another answer at the same arguments")
		}
		spoil(m2)
		for _, x := range d2 {
			spoilRows(x.B, nil)
		}
		May(at, l, at.Who, 6)
		it, _ := Say(at, l, at.Who)
		spoilRows(it.Body, it.L)
		if deep(l) != was {
			t.Fatalf("handed in: %s, now %s", was, deep(l))
		}
		if told(b, m) != wantLanes || said(d) != wantSaid {
			t.Fatal("what was told is turned by what is told later")
		}
		for k := range d { // what was delivered and the lanes stand alone, too
			spoilRows(d[k].B, nil)
		}
		if told(b, m) != wantLanes {
			t.Fatal("lanes share memory with what was delivered")
		}
		spoil(l)
		if told(b, m) != wantLanes {
			t.Fatal("what was told is turned with what was handed in")
		}
	}
}

// R3: what was delivered stays, whatever becomes of the lanes that were handed in and of those that were told.
func TestDeliveredStays(t *testing.T) {
	r := random(10)
	for range 300 {
		l := roomy(r.chance(3, 9))
		_, m, d := Walk(turn(r.below(3), 0), l)
		was := said(d)
		spoil(m)
		spoil(l)
		if said(d) != was {
			t.Fatalf("%q, now %q", was, said(d))
		}
	}
}

// R1: calls end, and none panics, also where nothing is promised.
func TestNoPanic(t *testing.T) {
	odd := []int{math.MinInt, -65, -1, 0, 1, 2, 3, 63, 64, 65, math.MaxInt}
	wrong := []api.Lane{
		row(order(1, true, 64, 70)), row(order(1, true, -1)), row(order(0, false, 9, 9)), row(order(-3, true)), row(token(-3)),
		row(message(1, "a"), message(1, "b"), message(1, "c")), row(token(2), token(2), token(2)), row(token(2), message(2, "a"), order(2, true, 0, 1)), row(token(5), message(4, "x"), token(3)),
		row(api.Entry{Kind: 9, Seq: 1, L: []int{0}, Hand: true}), row(api.Entry{Kind: api.IToken, Seq: 1, L: []int{1}, Hand: true, B: []byte("a")}), row(api.Entry{}, api.Entry{}),
		{Part: api.Part{Seq: math.MinInt, Total: -1, Got: 99}},
		row(), row(message(math.MaxInt, "")), row(order(math.MaxInt, true, 63, 1, 0)), row(token(math.MaxInt)),
	}
	sets := [][]api.Lane{nil, {}, make([]api.Lane, 65), make([]api.Lane, 200)}
	for _, a := range wrong {
		sets = append(sets, rows(a), rows(a, row(message(1, "m"), token(2), message(3, "n"))))
		for _, b := range wrong {
			sets = append(sets, rows(a, b), rows(a, row(token(1), token(2)), b))
		}
	}
	for _, l := range sets {
		for _, who := range odd {
			for _, used := range odd {
				Walk(turn(who, used), l)
				Say(turn(who, used), l, who)
				Say(turn(0, used), l, who)
				for _, quota := range odd {
					May(turn(who, used), l, who, quota)
					May(turn(who, used), l, 0, quota)
				}
			}
		}
	}
}
