package sendq

import (
	"bytes"
	"fmt"
	"math"
	"slices"
	"strings"
	"testing"

	"precentor/api"
)

// wait is a row of messages, each with memory of its own.
func wait(l ...string) [][]byte {
	var q [][]byte
	for _, s := range l {
		q = append(q, []byte(s))
	}
	return q
}

// told is a row as a text: that of another row only if both have the same messages.
func told(q [][]byte) string {
	var out strings.Builder
	for _, b := range q {
		fmt.Fprintf(&out, "(%x)", b)
	}
	return out.String()
}

// long is a message of many bytes.
func long(many int) string {
	return strings.Repeat("m", many)
}

// texts are rows of which no two are the same: none, one and many, with empty messages, alike and not, in several orders.
func texts() [][]string {
	l := [][]string{
		{}, {""}, {"a"}, {"b"}, {"ab"}, {"ba"}, {"a\x00"}, {"\x00"}, {"\xff"},
		{"", ""}, {"", "a"}, {"a", ""}, {"a", "a"}, {"a", "b"}, {"b", "a"}, {"ab", ""}, {"", "ab"},
		{"", "", ""}, {"a", "b", "c"}, {"a", "c", "b"}, {"c", "b", "a"}, {"a", "b", "d"}, {"a", "", "bc"}, {"ab", "c", ""}, {"abc", "", ""}, {"abc"},
		{"a", "b", "c", "a", "b", "c"}, {long(1024)}, {long(1025)}, {long(1024), "x", long(32768)},
	}
	var many, other []string
	for i := range api.MaxQueue {
		many = append(many, strings.Repeat(string(rune('a'+i%26)), i%9))
		other = append(other, fmt.Sprint("message ", i))
	}
	return append(l, many, many[1:], other, other[:63])
}

// rows are those, and rows without messages that are told in another way.
func rows() [][][]byte {
	all := [][][]byte{nil, {}, {nil}, {nil, {}}, {[]byte("a"), nil}}
	for _, l := range texts() {
		all = append(all, wait(l...))
	}
	return all
}

// checkSame: are two rows the same, or not, as they are asked for, and the other way round?
func checkSame(t *testing.T, a, b [][]byte, want bool) {
	t.Helper()
	if ab, ba := Same(a, b), Same(b, a); ab != want || ba != want {
		t.Errorf("Same of %q and %q: %t, and %t the other way round", a, b, ab, ba)
	}
}

// P12.1: the cases of Same, each one written out.
func TestSame(t *testing.T) {
	for _, x := range []struct {
		a, b []string
		want bool
	}{
		{nil, nil, true}, {[]string{"a"}, []string{"a"}, true}, {[]string{"a", "bc", ""}, []string{"a", "bc", ""}, true},
		{nil, []string{"a"}, false}, {[]string{"a"}, []string{"a", "b"}, false}, {[]string{"b"}, []string{"a", "b"}, false}, {[]string{"a", "b"}, []string{"a", "b", "c"}, false}, // other lengths
		{[]string{"a"}, []string{"b"}, false}, {[]string{"abc", "d"}, []string{"abx", "d"}, false}, {[]string{"abc", "d"}, []string{"xbc", "d"}, false}, {[]string{"abc", "d"}, []string{"axc", "d"}, false}, // one byte
		{[]string{"d", "abc"}, []string{"d", "abx"}, false}, {[]string{"a", "\x00", "b"}, []string{"a", "\x01", "b"}, false}, {[]string{"\x7f"}, []string{"\xff"}, false}, {[]string{"a"}, []string{"A"}, false},
		{[]string{"a"}, []string{"ab"}, false}, {[]string{"a", "b"}, []string{"a", "bb"}, false}, {[]string{"a"}, []string{"a\x00"}, false}, {[]string{""}, []string{"\x00"}, false}, // a message's length
		{[]string{"a", "b"}, []string{"b", "a"}, false}, {[]string{"a", "b", "c"}, []string{"a", "c", "b"}, false}, {[]string{"", "a"}, []string{"a", ""}, false}, // the order
		{[]string{""}, nil, false}, {[]string{"", ""}, []string{""}, false}, {[]string{"a", ""}, []string{"a"}, false}, {[]string{"", "a"}, []string{"a"}, false}, // an empty message beside none
		{[]string{"ab", "c"}, []string{"a", "bc"}, false}, {[]string{"ab"}, []string{"a", "b"}, false}, {[]string{"ab", ""}, []string{"", "ab"}, false}, // the same bytes, cut elsewhere
	} {
		checkSame(t, wait(x.a...), wait(x.b...), x.want)
	}
}

// P12.1: each row is the same as itself and as a copy of it, and as no other one.
func TestSameOfAll(t *testing.T) {
	l := texts()
	for i, a := range l {
		q := wait(a...)
		checkSame(t, q, q, true)
		for k, b := range l {
			checkSame(t, q, wait(b...), i == k)
		}
	}
}

// P12.1, R3: a list without elements may be nil, be it the row or a message.
func TestSameOfNothing(t *testing.T) {
	checkSame(t, nil, [][]byte{}, true)
	checkSame(t, [][]byte{nil}, [][]byte{{}}, true)
	checkSame(t, [][]byte{{1}, nil, {}}, [][]byte{{1}, {}, nil}, true)
	checkSame(t, [][]byte{nil}, nil, false)
	checkSame(t, [][]byte{nil}, [][]byte{}, false)
	checkSame(t, [][]byte{nil}, [][]byte{{0}}, false)
	checkSame(t, [][]byte{nil}, [][]byte{nil, nil}, false)
}

// P12.1: rows that differ in one bit of one message, wherever it is, are not the same; nor are they with a byte more or less there.
func TestSameButForOne(t *testing.T) {
	l := []string{"first", "", "a second one", "x"}
	a := wait(l...)
	for i, s := range l {
		for k := range s {
			for bit := range 8 {
				b := wait(l...)
				b[i][k] ^= 1 << bit
				checkSame(t, a, b, false)
			}
		}
		more, less := wait(l...), wait(l...)
		more[i] = append(more[i], 0)
		checkSame(t, a, more, false)
		if s != "" {
			less[i] = less[i][:len(s)-1]
			checkSame(t, a, less, false)
		}
		checkSame(t, a, slices.Delete(wait(l...), i, i+1), false)
	}
}

// checkOffer: is what comes of an offer the row that is told, with that code?
func checkOffer(t *testing.T, q [][]byte, b []byte, room, most int, want string, code api.Errno) {
	t.Helper()
	if got, e := Offer(q, b, room, most); told(got) != want || e != code {
		t.Errorf("Offer of %d bytes to %d messages, room %d, most %d: %s, %d, not %s, %d", len(b), len(q), room, most, told(got), e, want, code)
	}
}

// P12.1: the cases of an offer, each one written out; what is refused leaves the row as it was.
func TestOffer(t *testing.T) {
	none, one, many := []string(nil), []string{"a"}, []string{"a", "", "bcd"}
	for _, x := range []struct {
		q          []string
		b          string
		room, most int
		want       api.Errno
	}{
		{none, "x", 1, 1, api.OK}, {one, "x", 2, 1, api.OK}, {many, "x", 4, 1, api.OK}, // to none, to one, to many
		{none, "xyz", 9, 9, api.OK}, {one, "xyz", 9, 9, api.OK}, {many, "xyz", 9, 9, api.OK},
		{none, "", 1, 5, api.OK}, {one, "", 2, 5, api.OK}, {many, "", 4, 5, api.OK}, // an empty one
		{none, "xy", 9, 3, api.OK}, {none, "xyz", 9, 3, api.OK}, {none, "wxyz", 9, 3, api.ErrTooLong}, // one byte less than most, most, one more
		{one, "xy", 9, 3, api.OK}, {one, "xyz", 9, 3, api.OK}, {one, "wxyz", 9, 3, api.ErrTooLong},
		{many, "xy", 9, 3, api.OK}, {many, "xyz", 9, 3, api.OK}, {many, "wxyz", 9, 3, api.ErrTooLong},
		{none, "", 9, 0, api.OK}, {one, "", 9, 0, api.OK}, {many, "", 9, 0, api.OK}, {none, "x", 9, 0, api.ErrTooLong}, {one, "x", 9, 0, api.ErrTooLong}, // most 0
		{none, "", 9, -1, api.ErrTooLong}, {one, "", 9, -1, api.ErrTooLong}, {none, "x", 9, -1, api.ErrTooLong}, {many, "x", 9, math.MinInt, api.ErrTooLong}, // most below 0
		{none, "x", -1, 5, api.ErrFull}, {none, "", -1, 5, api.ErrFull}, {one, "x", -1, 5, api.ErrFull}, {many, "x", math.MinInt, 5, api.ErrFull}, // room below 0
		{none, "x", 0, 5, api.ErrFull}, {one, "x", 0, 5, api.ErrFull}, {many, "x", 0, 5, api.ErrFull}, {none, "", 0, 0, api.ErrFull}, // room 0
		{none, "x", 1, 5, api.OK}, {one, "x", 1, 5, api.ErrFull}, {one, "x", 2, 5, api.OK}, // as many as wait, one more
		{many, "x", 2, 5, api.ErrFull}, {many, "x", 3, 5, api.ErrFull}, {many, "x", 4, 5, api.OK}, {many, "x", 5, 5, api.OK}, // one less than wait, as many, more
		{many, "", 2, 5, api.ErrFull}, {many, "", 3, 5, api.ErrFull},
		{none, "x", math.MaxInt, math.MaxInt, api.OK}, {many, "x", math.MaxInt, math.MaxInt, api.OK},
		{none, "xyz", 0, 2, api.ErrTooLong}, {none, "xyz", -1, 2, api.ErrTooLong}, {one, "xyz", 1, 2, api.ErrTooLong}, {many, "xyz", 2, 2, api.ErrTooLong}, // too long, and no room
		{many, "xyz", 3, 2, api.ErrTooLong}, {many, "", 3, -1, api.ErrTooLong}, {none, "", 0, -1, api.ErrTooLong}, {many, "x", math.MinInt, math.MinInt, api.ErrTooLong},
	} {
		want := x.q
		if x.want == api.OK {
			want = append(slices.Clone(x.q), x.b)
		}
		checkOffer(t, wait(x.q...), []byte(x.b), x.room, x.most, told(wait(want...)), x.want)
	}
}

// due is the code that an offer is answered by, where so many wait, reckoned otherwise: from what is left to spare.
func due(waits, many, room, most int) api.Errno {
	if most-many < 0 {
		return api.ErrTooLong
	}
	if room-waits < 1 {
		return api.ErrFull
	}
	return api.OK
}

// P12.1: offers of messages of all lengths around most, to all rows, with room around what waits.
func TestOfferEverywhere(t *testing.T) {
	for _, q := range rows() {
		for _, most := range []int{-2, -1, 0, 1, 2, 7, 1024} {
			for many := max(0, most-2); many <= most+3; many++ {
				for _, room := range []int{-1, 0, 1, len(q) - 2, len(q) - 1, len(q), len(q) + 1, len(q) + 2, 64} {
					b := []byte(long(many))
					want, code := told(q), due(len(q), many, room, most)
					if code == api.OK {
						want += told([][]byte{b})
					}
					checkOffer(t, q, b, room, most, want, code)
				}
			}
		}
	}
}

// P12.1: a message's bytes are of no weight, only how many they are; one that waits already is taken once more.
func TestOfferAnyBytes(t *testing.T) {
	for c := range 256 {
		b := []byte{byte(c), 0, byte(255 - c)}
		checkOffer(t, wait("a"), b, 2, 3, told([][]byte{[]byte("a"), b}), api.OK)
		checkOffer(t, [][]byte{b, b}, b, 3, 3, told([][]byte{b, b, b}), api.OK)
		checkOffer(t, wait("a"), b, 2, 2, told(wait("a")), api.ErrTooLong)
	}
	checkOffer(t, wait("a"), nil, 2, 0, "(61)()", api.OK)
}

// P12.1: a row is filled up to the most messages that may wait, by the longest ones that may be.
func TestOfferTheMost(t *testing.T) {
	most := api.MaxFrag * api.MaxMtu
	var q [][]byte
	for i := range api.MaxQueue {
		var e api.Errno
		b := bytes.Repeat([]byte{byte(i)}, most)
		if q, e = Offer(q, b, api.MaxQueue, most); e != api.OK || len(q) != i+1 || !bytes.Equal(q[i], b) {
			t.Fatal(i, e, len(q))
		}
	}
	if r, e := Offer(q, nil, api.MaxQueue, most); e != api.ErrFull || !Same(r, q) {
		t.Error(e)
	}
	if r, e := Offer(q, make([]byte, most+1), api.MaxQueue+1, most); e != api.ErrTooLong || !Same(r, q) {
		t.Error(e)
	}
}

// checkFirst: are Head and Pop of a row its first message, the others, and yes; nothing, and no, if none waits?
func checkFirst(t *testing.T, q [][]byte) {
	t.Helper()
	b, is := Head(q)
	r, was := Pop(q)
	if len(q) == 0 {
		if b != nil || is || len(r) != 0 || was {
			t.Errorf("of none: %q, %t, %q, %t", b, is, r, was)
		}
		return
	}
	if !is || !was || !bytes.Equal(b, q[0]) || told(r) != told(q[1:]) {
		t.Errorf("of %q: %q, %t, %q, %t", q, b, is, r, was)
	}
}

// P12.2: the cases of Head and Pop, each one written out.
func TestHeadPop(t *testing.T) {
	for _, x := range []struct {
		q      []string
		head   string
		others []string
		is     bool
	}{
		{nil, "", nil, false},
		{[]string{"a"}, "a", nil, true}, {[]string{""}, "", nil, true},
		{[]string{"a", "b"}, "a", []string{"b"}, true}, {[]string{"b", "a"}, "b", []string{"a"}, true}, {[]string{"a", "a"}, "a", []string{"a"}, true},
		{[]string{"abc", "d", "", "ef"}, "abc", []string{"d", "", "ef"}, true},
		{[]string{"", "a"}, "", []string{"a"}, true}, {[]string{"", "", "a"}, "", []string{"", "a"}, true}, {[]string{"a", ""}, "a", []string{""}, true},
	} {
		b, is := Head(wait(x.q...))
		q, was := Pop(wait(x.q...))
		if string(b) != x.head || is != x.is || told(q) != told(wait(x.others...)) || was != x.is {
			t.Errorf("%q: %q, %t, %q, %t", x.q, b, is, q, was)
		}
	}
}

// P12.2: Head and Pop of all rows.
func TestHeadPopEverywhere(t *testing.T) {
	for _, q := range rows() {
		checkFirst(t, q)
	}
}

// P12.2: a row is popped message by message, until none waits.
func TestPopToTheEnd(t *testing.T) {
	for _, q := range rows() {
		was, got := told(q), ""
		for range len(q) {
			checkFirst(t, q)
			b, _ := Head(q)
			got += told([][]byte{b})
			q, _ = Pop(q)
		}
		if got != was || len(q) != 0 {
			t.Errorf("%s is popped of %s, and %d are left", got, was, len(q))
		}
		checkFirst(t, q)
	}
}

// random tells numbers that look like any, but are the same in each run.
type random uint64

// below is the next one, from 0 to one less than n.
func (x *random) below(n int) int {
	*x = *x*6364136223846793005 + 1442695040888963407
	return int(uint64(*x)>>33) % n
}

// message is an empty one, or one that tells its number, and has so many bytes behind that.
func message(number, many int) []byte {
	if many == 0 {
		return nil
	}
	return append(fmt.Appendf(nil, "%d:", number), make([]byte, many)...)
}

// run is what went on with a row, from none on: what was taken, and what was popped, in order.
type run struct {
	q          [][]byte
	in, out    [][]byte
	room, most int
}

// offer is an offer, with what must hold behind it.
func (x *run) offer(t *testing.T, b []byte) api.Errno {
	t.Helper()
	code := due(len(x.q), len(b), x.room, x.most)
	q, e := Offer(x.q, b, x.room, x.most)
	if e != code {
		t.Errorf("room %d, most %d, %d wait, %d bytes: %d, not %d", x.room, x.most, len(x.q), len(b), e, code)
	}
	if e == api.OK {
		x.in = append(x.in, bytes.Clone(b))
	}
	x.q = q
	x.check(t)
	return e
}

// pop is a pop, with what must hold behind it.
func (x *run) pop(t *testing.T) bool {
	t.Helper()
	checkFirst(t, x.q)
	b, is := Head(x.q)
	q, was := Pop(x.q)
	if was {
		x.out = append(x.out, b)
	}
	if is != was {
		t.Error(is, was)
	}
	x.q = q
	x.check(t)
	return was
}

// check: is what was popped, and behind it what waits, just what was taken, and is there room for all that waits?
func (x *run) check(t *testing.T) {
	t.Helper()
	if !slices.EqualFunc(x.in, append(slices.Clone(x.out), x.q...), bytes.Equal) {
		t.Fatalf("taken %q, popped %q, and %q wait", x.in, x.out, x.q)
	}
	if len(x.q) > max(0, x.room) {
		t.Fatalf("%d wait, room %d", len(x.q), x.room)
	}
}

// P12.3: over many offers and pops in turn what is not refused is popped, in that order, each once, and there is room for what waits.
func TestRuns(t *testing.T) {
	var r random = 12
	codes := map[api.Errno]int{}
	empty := 0
	for range 200 {
		x := run{room: r.below(10) - 1, most: r.below(12) - 1}
		if r.below(8) == 0 {
			x.room = api.MaxQueue
		}
		greed := 1 + r.below(7)
		for i := range 250 {
			if r.below(8) < greed {
				codes[x.offer(t, message(i, r.below(6)))]++
			} else if !x.pop(t) {
				empty++
			}
		}
		for x.pop(t) {
		}
		if told(x.out) != told(x.in) {
			t.Errorf("popped %s of %s", told(x.out), told(x.in))
		}
	}
	for _, e := range []api.Errno{api.OK, api.ErrFull, api.ErrTooLong} {
		if codes[e] < 100 {
			t.Error("only", codes[e], "offers are answered by", e)
		}
	}
	if empty < 100 {
		t.Error("only", empty, "pops of no row")
	}
}

// P12.3: all orders of eight offers and pops, in room for none to three.
func TestAllOrders(t *testing.T) {
	for room := range 4 {
		for steps := range 1 << 8 {
			x := run{room: room, most: 1}
			for i := range 8 {
				if steps>>i&1 == 0 {
					x.offer(t, []byte{byte('a' + i)})
				} else {
					x.pop(t)
				}
			}
		}
	}
}

// P12.3: room that grows less lets none in until less wait than that; what waits already stays.
func TestLessRoom(t *testing.T) {
	q := wait("a", "b", "c", "d")
	for _, want := range []string{"(61)(62)(63)(64)", "(62)(63)(64)", "(63)(64)"} {
		checkOffer(t, q, []byte("x"), 2, 5, want, api.ErrFull)
		q, _ = Pop(q)
	}
	checkOffer(t, q, []byte("x"), 2, 5, "(64)(78)", api.OK)
}

// answer is what a call answered: a row, or a message, told and with all its memory.
type answer struct {
	row [][]byte
	b   []byte
}

// told is an answer as a text.
func (a answer) told() string {
	return told(a.row) + " " + string(a.b)
}

// spoil writes into all that an answer has, and behind its ends.
func (a answer) spoil(c byte) {
	for _, b := range append(slices.Clone(a.row), a.b) {
		b = b[:cap(b)]
		for i := range b {
			b[i] = c
		}
	}
	clear(a.row[:cap(a.row)])
}

// calls are all calls that answer a row, or a message.
func calls() map[string]func(q [][]byte, b []byte) answer {
	offer := func(room, most int) func(q [][]byte, b []byte) answer {
		return func(q [][]byte, b []byte) answer {
			r, _ := Offer(q, b, room, most)
			return answer{row: r}
		}
	}
	return map[string]func(q [][]byte, b []byte) answer{
		"Offer that is taken": offer(99, 99),
		"Offer of too much":   offer(99, 0),
		"Offer without room":  offer(0, 99),
		"Head": func(q [][]byte, b []byte) answer {
			first, _ := Head(q)
			return answer{b: first}
		},
		"Pop": func(q [][]byte, b []byte) answer {
			r, _ := Pop(q)
			return answer{row: r}
		},
	}
}

// given is what is handed in, and all of its memory, that behind the ends too.
type given struct {
	q, whole [][]byte
	b        []byte
	full     [][]byte
}

// roomy is a row with messages behind its end, each with bytes behind its end, and a message likewise.
func roomy(l ...string) given {
	var x given
	for _, s := range append(l, "behind", "it") {
		full := append([]byte(s), "tail"...)
		x.full = append(x.full, full)
		x.whole = append(x.whole, full[:len(s)])
	}
	x.q = x.whole[:len(l)]
	full := []byte("xyztail")
	x.full = append(x.full, full)
	x.b = full[:3]
	return x
}

// told is all of that as a text.
func (x given) told() string {
	return told(x.whole) + " " + told(x.full)
}

// bodies are rows of none, one and many, some with an empty message.
var bodies = [][]string{{}, {""}, {"a"}, {"abc", "d"}, {"", "a"}, {"a", "", "bcd", "e"}}

// P12.1, P12.2, R3: neither the row nor the message that is handed in is written into, not even behind its end, nor by whoever has the answer.
func TestArgumentsStay(t *testing.T) {
	for name, run := range calls() {
		for _, l := range bodies {
			x := roomy(l...)
			was := x.told()
			a := run(x.q, x.b)
			if now := x.told(); now != was {
				t.Errorf("%s: written into: %s, was %s", name, now, was)
			}
			a.spoil('!')
			if now := x.told(); now != was {
				t.Errorf("%s shares memory with what it was given: %s, was %s", name, now, was)
			}
		}
	}
	x, y := roomy("a", "", "bc"), roomy("a", "", "bc")
	was := x.told()
	if !Same(x.q, y.q) || x.told() != was || y.told() != was {
		t.Error("Same: written into:", x.told(), y.told())
	}
}

// P12.1, P12.2, R3: what came out stays as it is when what was handed in is written to behind it.
func TestAnswersStay(t *testing.T) {
	for name, run := range calls() {
		for _, l := range bodies {
			x := roomy(l...)
			a := run(x.q, x.b)
			was := a.told()
			for _, b := range x.full {
				clear(b)
			}
			clear(x.whole)
			if now := a.told(); now != was {
				t.Errorf("%s: %s, was %s", name, now, was)
			}
		}
	}
}

// P12.1, P12.2: no two messages of one answer share memory, even where those that were handed in do.
func TestMessagesAreApart(t *testing.T) {
	b := []byte("one")
	for name, run := range calls() {
		a := run([][]byte{b, b, b[:1:1], b[1:]}, b[:2])
		for i, x := range a.row {
			x = x[:cap(x)]
			for k := range x {
				x[k] = byte(i + 1)
			}
		}
		for i, x := range a.row {
			for _, c := range x[:cap(x)] {
				if c != byte(i+1) {
					t.Fatalf("%s: the bytes of %d are also another's", name, i)
				}
			}
		}
	}
}

// P12.3, R4: two rows that are gone on with from one and the same know nothing of each other.
func TestWaysAreApart(t *testing.T) {
	q, _ := Offer(wait("a", "b"), []byte("c"), 9, 9)
	x, _ := Offer(q, []byte("x"), 9, 9)
	y, _ := Offer(q, []byte("y"), 9, 9)
	p, _ := Pop(q)
	z, _ := Offer(p, []byte("z"), 9, 9)
	for _, r := range []struct {
		q    [][]byte
		want string
	}{{q, "(61)(62)(63)"}, {x, "(61)(62)(63)(78)"}, {y, "(61)(62)(63)(79)"}, {p, "(62)(63)"}, {z, "(62)(63)(7a)"}} {
		if told(r.q) != r.want {
			t.Error(told(r.q), r.want)
		}
	}
}

// R4: what a call answers hangs on its arguments alone, not on calls before it.
func TestNothingIsKept(t *testing.T) {
	for name, run := range calls() {
		for _, l := range bodies {
			x := roomy(l...)
			was := run(x.q, x.b)
			for _, q := range rows() {
				run(q, []byte("other bytes"))
			}
			if again := run(x.q, x.b); again.told() != was.told() {
				t.Errorf("%s: %s, then %s", name, was.told(), again.told())
			}
		}
	}
}

// P12.1 and P12.2: the example of the chapter, and what is popped behind it.
func TestExample(t *testing.T) {
	var q [][]byte
	for _, x := range []struct {
		b    string
		code api.Errno
		want string
	}{{"abc", api.ErrTooLong, ""}, {"ab", api.OK, "(6162)"}, {"c", api.ErrFull, "(6162)"}, {"abc", api.ErrTooLong, "(6162)"}} {
		var e api.Errno
		if q, e = Offer(q, []byte(x.b), 1, 2); e != x.code || told(q) != x.want {
			t.Error(x.b, e, told(q))
		}
	}
	b, is := Head(q)
	q, was := Pop(q)
	if string(b) != "ab" || !is || !was || len(q) != 0 {
		t.Error(b, is, was, told(q))
	}
}
