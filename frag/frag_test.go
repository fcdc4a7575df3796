package frag

import (
	"bytes"
	"fmt"
	"math"
	"slices"
	"testing"

	"precentor/api"
)

// message is so many bytes, no two in a row alike.
func message(many int) []byte {
	b := make([]byte, many)
	for i := range b {
		b[i] = byte(i*7 + i/251)
	}
	return b
}

// part is a message under way.
func part(seq, total, got int, b string) api.Part {
	return api.Part{Seq: seq, Total: total, Got: got, B: []byte(b)}
}

// told is a message under way as a text: another way than Same to hold two against each other.
func told(p api.Part) string {
	return fmt.Sprintf("(%d %d %d %x)", p.Seq, p.Total, p.Got, p.B)
}

// texts are pieces as texts.
func texts(l [][]byte) []string {
	var out []string
	for _, b := range l {
		out = append(out, string(b))
	}
	return out
}

// P6.1: how many pieces, of ordinary numbers and at the edges.
func TestMany(t *testing.T) {
	for _, x := range []struct{ n, mtu, want int }{
		{0, 1, 1}, {0, 2, 1}, {0, 1024, 1}, {0, math.MaxInt, 1},
		{1, 1, 1}, {1, 2, 1}, {1, 1024, 1}, {1, math.MaxInt, 1},
		{2, 1, 2}, {32, 1, 32}, {33, 1, 33}, {1000, 1, 1000},
		{4, 5, 1}, {5, 5, 1}, {6, 5, 2}, {9, 5, 2}, {10, 5, 2}, {11, 5, 3}, {14, 5, 3}, {15, 5, 3}, {16, 5, 4},
		{1023, 1024, 1}, {1024, 1024, 1}, {1025, 1024, 2}, {32 * 1024, 1024, 32}, {32*1024 + 1, 1024, 33},
		{3, math.MaxInt, 1}, {math.MaxInt - 1, math.MaxInt, 1}, {math.MaxInt, math.MaxInt, 1}, {math.MaxInt, math.MaxInt - 1, 2},
		{math.MaxInt, 1, math.MaxInt}, {math.MaxInt - 1, 1, math.MaxInt - 1}, {math.MaxInt, 2, 1 << 62}, {math.MaxInt - 1, 2, 1<<62 - 1},
		{math.MaxInt, 1 << 62, 2}, {1 << 62, 1 << 62, 1}, {1<<62 + 1, 1 << 62, 2},
	} {
		if got := Many(x.n, x.mtu); got != x.want {
			t.Errorf("Many(%d, %d) = %d, want %d", x.n, x.mtu, got, x.want)
		}
	}
}

// P6.1: there are no pieces of fewer than no bytes, and none that hold no byte.
func TestManyOfWrong(t *testing.T) {
	for _, n := range []int{-1, -2, -5, -1 << 32, math.MinInt + 1, math.MinInt} {
		for _, mtu := range []int{1, 2, 5, 1024, math.MaxInt, 0, -1, -5, math.MinInt} {
			if got := Many(n, mtu); got != 0 {
				t.Errorf("Many(%d, %d) = %d", n, mtu, got)
			}
		}
	}
	for _, mtu := range []int{0, -1, -2, -5, -1 << 32, math.MinInt + 1, math.MinInt} {
		for _, n := range []int{0, 1, 2, 5, 1024, math.MaxInt} {
			if got := Many(n, mtu); got != 0 {
				t.Errorf("Many(%d, %d) = %d", n, mtu, got)
			}
		}
	}
}

// P6.1: as few as hold the bytes, and one at least.
func TestManyIsLeast(t *testing.T) {
	for n := range 200 {
		for mtu := 1; mtu < 70; mtu++ {
			got := Many(n, mtu)
			if got < 1 || got*mtu < n || got > 1 && (got-1)*mtu >= n {
				t.Errorf("Many(%d, %d) = %d", n, mtu, got)
			}
		}
	}
}

// P6.1: messages in pieces, ordinary ones and at the edges.
func TestCut(t *testing.T) {
	for _, x := range []struct {
		b    string
		mtu  int
		want []string
	}{
		{"abcde", 2, []string{"ab", "cd", "e"}},
		{"", 1, []string{""}},
		{"", 2, []string{""}},
		{"", math.MaxInt, []string{""}},
		{"a", 1, []string{"a"}},
		{"a", 2, []string{"a"}},
		{"a", math.MaxInt, []string{"a"}},
		{"abc", 1, []string{"a", "b", "c"}},
		{"abc", 4, []string{"abc"}},
		{"abcd", 4, []string{"abcd"}},
		{"abcde", 4, []string{"abcd", "e"}},
		{"abcdefg", 4, []string{"abcd", "efg"}},
		{"abcdefgh", 4, []string{"abcd", "efgh"}},
		{"abcdefghi", 4, []string{"abcd", "efgh", "i"}},
		{"abcdef", 2, []string{"ab", "cd", "ef"}},
		{"abcdef", 3, []string{"abc", "def"}},
		{"abcdef", 1 << 32, []string{"abcdef"}},
		{"abcdef", math.MaxInt - 5, []string{"abcdef"}},
		{"abcdef", math.MaxInt, []string{"abcdef"}},
	} {
		if got := texts(Cut([]byte(x.b), x.mtu)); !slices.Equal(got, x.want) {
			t.Errorf("Cut(%q, %d) = %q, want %q", x.b, x.mtu, got, x.want)
		}
	}
	if got := Cut(nil, 3); len(got) != 1 || len(got[0]) != 0 {
		t.Errorf("Cut(nil, 3) = %q", got)
	}
}

// P6.1: pieces that hold no byte are none at all.
func TestCutOfWrong(t *testing.T) {
	for _, b := range [][]byte{nil, {}, {1}, []byte("abcde"), message(3000)} {
		for _, mtu := range []int{0, -1, -2, -5, -1 << 32, math.MinInt + 1, math.MinInt} {
			if got := Cut(b, mtu); len(got) != 0 {
				t.Errorf("%d bytes, mtu %d: %d pieces", len(b), mtu, len(got))
			}
		}
	}
}

// sizes are mtus and lengths about them.
func sizes(visit func(n, mtu int)) {
	for mtu := 1; mtu < 12; mtu++ {
		for n := range 50 {
			visit(n, mtu)
		}
	}
	for _, mtu := range []int{63, 64, 255, 256, 1023, api.MaxMtu} {
		for _, whole := range []int{0, 1, 2, 5, api.MaxFrag - 1, api.MaxFrag, api.MaxFrag + 1} {
			for _, n := range []int{whole*mtu - 1, whole * mtu, whole*mtu + 1} {
				if n >= 0 {
					visit(n, mtu)
				}
			}
		}
	}
	visit(300, math.MaxInt)
}

// P6.1: as many pieces are cut as Many tells, each but the last one is full, and one behind the other they are the message.
func TestCutIsWhole(t *testing.T) {
	sizes(func(n, mtu int) {
		b := message(n)
		l := Cut(b, mtu)
		if len(l) != Many(n, mtu) {
			t.Errorf("%d bytes, mtu %d: %d pieces, told are %d", n, mtu, len(l), Many(n, mtu))
		}
		for i, piece := range l {
			if len(piece) > mtu || i < len(l)-1 && len(piece) != mtu || n > 0 && len(piece) == 0 {
				t.Errorf("%d bytes, mtu %d: piece %d has %d", n, mtu, i, len(piece))
			}
		}
		if !bytes.Equal(slices.Concat(l...), b) {
			t.Errorf("%d bytes, mtu %d: the pieces are another message", n, mtu)
		}
	})
}

// P6.1: messages under way are the same, if all of them is; no bytes are no bytes.
func TestSame(t *testing.T) {
	for _, p := range parts() {
		other := p
		other.B = bytes.Clone(p.B)
		if !Same(p, p) || !Same(p, other) || !Same(other, p) {
			t.Errorf("%s isn't the same as itself", told(p))
		}
		for _, q := range parts() {
			if got, want := Same(p, q), told(p) == told(q); got != want {
				t.Errorf("%s and %s: %t", told(p), told(q), got)
			}
		}
	}
	for _, b := range [][]byte{nil, {}, make([]byte, 0, 4)} {
		for _, c := range [][]byte{nil, {}, make([]byte, 0, 4)} {
			if !Same(api.Part{B: b}, api.Part{B: c}) || !Same(api.Part{Seq: 4, Total: 3, Got: 1, B: b}, api.Part{Seq: 4, Total: 3, Got: 1, B: c}) {
				t.Errorf("no bytes: %#v and %#v", b, c)
			}
		}
	}
}

// parts are messages under way of many kinds, right ones and such that no pieces lead to.
func parts() []api.Part {
	l := []api.Part{
		{},
		{B: []byte{}},
		{Seq: 4, Total: 3},
		{Seq: 4, Total: 3, B: []byte("left over")},
		{B: []byte{0}},
		part(4, 3, 1, "ab"),
		part(4, 3, 2, "ab"),
		part(4, 3, 2, ""),
		{Seq: 4, Total: 3, Got: 2},
		part(1, 32, 31, "thirty one pieces"),
		part(1, 33, 32, "one too many"),
		part(4, 0, 1, "a"),
		part(4, -1, 1, "a"),
		part(4, 3, 3, "abc"),
		part(4, 3, 4, "abcd"),
		part(4, 3, -1, "a"),
		part(4, 3, -5, "a"),
	}
	for _, edge := range []int{math.MaxInt, math.MinInt} {
		l = append(l, part(edge, 3, 1, "a"), part(4, edge, 1, "a"), part(4, 3, edge, "a"))
	}
	return l
}

// P6.1: messages under way that differ in one thing alone are not the same.
func TestSameButForOne(t *testing.T) {
	for name, turn := range map[string]func(*api.Part){
		"a number above":   func(p *api.Part) { p.Seq++ },
		"a number below":   func(p *api.Part) { p.Seq-- },
		"a number far on":  func(p *api.Part) { p.Seq += 1 << 32 },
		"a piece more":     func(p *api.Part) { p.Total++ },
		"a piece less":     func(p *api.Part) { p.Total-- },
		"far more pieces":  func(p *api.Part) { p.Total += 1 << 32 },
		"one more came":    func(p *api.Part) { p.Got++ },
		"one less came":    func(p *api.Part) { p.Got-- },
		"far more came":    func(p *api.Part) { p.Got += 1 << 32 },
		"a byte more":      func(p *api.Part) { p.B = append(p.B, 0) },
		"a byte ahead":     func(p *api.Part) { p.B = append([]byte{0}, p.B...) },
		"two turned about": func(p *api.Part) { p.Total, p.Got, p.Seq = p.Got, p.Seq, p.Total },
	} {
		for _, base := range []api.Part{part(7, 3, 2, "abc"), part(7, 3, 2, "")} {
			other := base
			other.B = bytes.Clone(base.B)
			turn(&other)
			if Same(base, other) || Same(other, base) {
				t.Errorf("%s is the same, but for: %s", told(base), name)
			}
		}
	}
	base := part(7, 3, 2, "abc")
	for i := range base.B {
		other := base
		other.B = bytes.Clone(base.B)
		other.B[i] ^= 0x80
		if Same(base, other) || Same(other, base) {
			t.Errorf("byte %d is another", i)
		}
		other.B = base.B[:i]
		if Same(base, other) || Same(other, base) {
			t.Errorf("only %d bytes", i)
		}
	}
}

// going: a piece is added, and the message isn't whole.
func going(t *testing.T, p api.Part, seq, index, total int, piece []byte, want api.Part) {
	t.Helper()
	q, b, whole, code := Add(p, seq, index, total, piece)
	if told(q) != told(want) || len(b) != 0 || whole || code != api.OK {
		t.Errorf("%s with %d %d %d %q: %s, %q, %t, %d, want %s", told(p), seq, index, total, piece, told(q), b, whole, code, told(want))
	}
}

// ending: a piece is added, the message is whole, and nothing is under way.
func ending(t *testing.T, p api.Part, seq, index, total int, piece []byte, want string) {
	t.Helper()
	q, b, whole, code := Add(p, seq, index, total, piece)
	if told(q) != told(api.Part{}) || string(b) != want || !whole || code != api.OK {
		t.Errorf("%s with %d %d %d %q: %s, %q, %t, %d, want %q", told(p), seq, index, total, piece, told(q), b, whole, code, want)
	}
}

// refused: a piece is refused, and the message under way is as it was.
func refused(t *testing.T, p api.Part, seq, index, total int, piece []byte) {
	t.Helper()
	was := told(p)
	q, b, whole, code := Add(p, seq, index, total, piece)
	if told(q) != was || len(b) != 0 || whole || code != api.ErrForm {
		t.Errorf("%s with %d %d %d %q: %s, %q, %t, %d", was, seq, index, total, piece, told(q), b, whole, code)
	}
}

// P6.2: the first piece of a message, and those behind it.
func TestAdd(t *testing.T) {
	none := api.Part{}
	going(t, none, 4, 0, 3, []byte("ab"), part(4, 3, 1, "ab"))
	going(t, none, 4, 0, 2, []byte("ab"), part(4, 2, 1, "ab"))
	going(t, none, 4, 0, 32, []byte("ab"), part(4, 32, 1, "ab"))
	ending(t, none, 4, 0, 1, []byte("ab"), "ab")
	going(t, part(4, 3, 1, "ab"), 5, 1, 3, []byte("cd"), part(4, 3, 2, "abcd"))
	ending(t, part(4, 3, 2, "abcd"), 6, 2, 3, []byte("e"), "abcde")
	ending(t, part(4, 2, 1, "ab"), 5, 1, 2, []byte("cd"), "abcd")
	going(t, part(4, 32, 30, "x"), 34, 30, 32, []byte("y"), part(4, 32, 31, "xy"))
	ending(t, part(4, 32, 31, "xy"), 35, 31, 32, []byte("z"), "xyz")
}

// P6.2: an empty piece is a piece, nil or not.
func TestAddEmpty(t *testing.T) {
	for _, piece := range [][]byte{nil, {}, make([]byte, 0, 4)} {
		going(t, api.Part{}, 4, 0, 3, piece, part(4, 3, 1, ""))
		going(t, part(4, 3, 1, ""), 5, 1, 3, piece, part(4, 3, 2, ""))
		going(t, part(4, 3, 1, "ab"), 5, 1, 3, piece, part(4, 3, 2, "ab"))
		going(t, api.Part{Seq: 4, Total: 3, Got: 1}, 5, 1, 3, []byte("c"), part(4, 3, 2, "c"))
		ending(t, part(4, 3, 2, "ab"), 6, 2, 3, piece, "ab")
		ending(t, part(4, 3, 2, ""), 6, 2, 3, piece, "")
		ending(t, api.Part{}, 4, 0, 1, piece, "")
		refused(t, api.Part{}, 4, 1, 3, piece)
		refused(t, part(4, 3, 1, "ab"), 4, 0, 3, piece)
	}
}

// P6.2: where none came, whatever else is told there is told anew.
func TestAddWhereNoneCame(t *testing.T) {
	for _, p := range []api.Part{{Seq: 9}, {Total: 9}, {Total: 33}, {Total: math.MinInt}, part(9, 9, 0, "left over"), {B: []byte{}}} {
		going(t, p, 4, 0, 3, []byte("ab"), part(4, 3, 1, "ab"))
		ending(t, p, 4, 0, 1, []byte("ab"), "ab")
		ending(t, p, 4, 0, 1, nil, "")
		refused(t, p, 4, 1, 3, []byte("ab"))
		refused(t, p, 4, 0, 33, []byte("ab"))
	}
}

// P6.2: the number is the first piece's, any one, and no later piece's.
func TestAddNumbers(t *testing.T) {
	for _, seq := range []int{0, 1, -1, 5, api.Far, api.Far + 1, math.MaxInt, math.MinInt} {
		going(t, api.Part{}, seq, 0, 3, []byte("ab"), part(seq, 3, 1, "ab"))
		for _, later := range []int{0, 1, -1, 4, 5, seq, seq + 1, math.MaxInt, math.MinInt} {
			going(t, part(seq, 3, 1, "ab"), later, 1, 3, []byte("c"), part(seq, 3, 2, "abc"))
			ending(t, part(seq, 2, 1, "ab"), later, 1, 2, []byte("c"), "abc")
		}
		refused(t, part(4, 3, 1, "ab"), seq, 0, 3, []byte("c"))
	}
}

// P6.2: a total that no message has is refused, whatever is under way.
func TestAddTotals(t *testing.T) {
	for _, total := range []int{0, -1, -2, -32, 33, 34, 64, 256 + 3, 1<<32 + 3, math.MaxInt, math.MinInt, math.MinInt + 3} {
		refused(t, api.Part{}, 4, 0, total, []byte("z"))
		refused(t, api.Part{}, 4, 1, total, []byte("z"))
		refused(t, part(4, 3, 1, "ab"), 5, 1, total, []byte("z"))
		// Not even where the message under way has that very total, and this would be its last piece.
		refused(t, part(4, total, 1, "ab"), 5, 1, total, []byte("z"))
		refused(t, part(4, total, total-1, "ab"), 5, total-1, total, []byte("z"))
	}
	for total := 2; total <= api.MaxFrag; total++ {
		going(t, api.Part{}, 4, 0, total, []byte("z"), part(4, total, 1, "z"))
		ending(t, part(4, total, total-1, "ab"), 5, total-1, total, []byte("z"), "abz")
	}
}

// P6.2: with pieces under way, each other total is refused.
func TestAddAnotherTotal(t *testing.T) {
	for _, got := range []int{1, 2, 31, -1, 33} {
		for mine := 1; mine <= api.MaxFrag; mine++ {
			for total := 1; total <= api.MaxFrag; total++ {
				if total != mine {
					refused(t, part(4, mine, got, "ab"), 4+got, got, total, []byte("z"))
				}
			}
		}
	}
}

// P6.2: an index that isn't the next one is refused, whatever is under way.
func TestAddIndexes(t *testing.T) {
	for _, p := range []api.Part{{}, part(9, 3, 0, "left over"), part(4, 3, 1, "ab"), part(4, 3, 2, "abcd"), part(4, 32, 31, "ab")} {
		total := p.Total
		if p.Got == 0 {
			total = 3
		}
		for _, index := range []int{-1, -2, 0, 1, 2, 3, 30, 31, 32, 33, p.Got - 1, p.Got + 1, -p.Got, p.Got + 256, p.Got + 1<<32, math.MaxInt, math.MinInt} {
			if index != p.Got {
				refused(t, p, 5, index, total, []byte("z"))
			}
		}
	}
}

// P6.2: counts that no pieces lead to are counted on too; the greatest one goes round.
func TestAddStrangeCounts(t *testing.T) {
	for _, got := range []int{3, 4, 31, 32, 33, 1 << 32, math.MaxInt - 1, -1, -2, math.MinInt} {
		going(t, part(4, 3, got, "ab"), 5, got, 3, []byte("c"), part(4, 3, got+1, "abc"))
		refused(t, part(4, 3, got, "ab"), 5, got-1, 3, []byte("c"))
		refused(t, part(4, 3, got, "ab"), 5, got+1, 3, []byte("c"))
	}
	going(t, part(4, 3, math.MaxInt, "ab"), 5, math.MaxInt, 3, []byte("c"), part(4, 3, math.MinInt, "abc"))
	refused(t, part(4, 3, math.MaxInt, "ab"), 5, math.MinInt, 3, []byte("c"))
	refused(t, part(4, 3, math.MaxInt, "ab"), 5, math.MaxInt, 2, []byte("c"))
	// Got is 0 behind a count of -1, with bytes: the next piece begins anew.
	p, _, _, _ := Add(part(4, 3, -1, "ab"), 5, -1, 3, []byte("c"))
	ending(t, p, 6, 0, 1, []byte("d"), "d")
}

// together adds the pieces of a message in order from a message under way on, and tells what is under way in the end.
func together(t *testing.T, p api.Part, seq int, b []byte, mtu int) api.Part {
	t.Helper()
	l := Cut(b, mtu)
	for i, piece := range l {
		last := i == len(l)-1
		q, got, whole, code := Add(p, seq+i, i, len(l), piece)
		if code != api.OK || whole != last {
			t.Fatalf("%d bytes, mtu %d: piece %d of %d: %t, %d", len(b), mtu, i, len(l), whole, code)
		}
		if last && !bytes.Equal(got, b) || !last && len(got) != 0 {
			t.Fatalf("%d bytes, mtu %d: piece %d of %d: %d bytes told", len(b), mtu, i, len(l), len(got))
		}
		want := api.Part{Seq: seq, Total: len(l), Got: i + 1, B: b[:min(len(b), (i+1)*len(l[0]))]}
		if last {
			want = api.Part{}
		}
		if told(q) != told(want) {
			t.Fatalf("%d bytes, mtu %d: piece %d of %d: %d %d %d, %d bytes under way", len(b), mtu, i, len(l), q.Seq, q.Total, q.Got, len(q.B))
		}
		p = q
	}
	return p
}

// P6.3: the pieces of a message, added in order, are the message, with the last one and not ahead of it; of 33 the first one is refused.
func TestTogether(t *testing.T) {
	sizes(func(n, mtu int) {
		b := message(n)
		if many := Many(n, mtu); many > api.MaxFrag {
			refused(t, api.Part{}, 4, 0, many, Cut(b, mtu)[0])
			return
		}
		together(t, api.Part{}, 4, b, mtu)
	})
	for many := 1; many <= api.MaxFrag; many++ {
		together(t, api.Part{}, 1, message(many), 1)
	}
}

// P6.3: messages one behind the other are told one by one.
func TestOneBehindTheOther(t *testing.T) {
	p := api.Part{}
	seq := 1
	for _, n := range []int{7, 0, 1, 20, 3, 64, 0, 0, 63, 2} {
		p = together(t, p, seq, message(n), 2)
		seq += Many(n, 2)
	}
	if told(p) != told(api.Part{}) {
		t.Errorf("%s is under way", told(p))
	}
}

// P6.3: what is refused on the way is as if it had never come.
func TestRefusedOnTheWay(t *testing.T) {
	b := message(50)
	l := Cut(b, 7)
	p := api.Part{}
	for i, piece := range l {
		for _, x := range [][2]int{{i - 1, len(l)}, {i + 1, len(l)}, {i, 0}, {i, 33}, {-1, len(l)}} {
			q, got, whole, code := Add(p, 9, x[0], x[1], []byte("stray"))
			if code != api.ErrForm || told(q) != told(p) || len(got) != 0 || whole {
				t.Fatalf("piece %d: %v: %s, %q, %t, %d", i, x, told(q), got, whole, code)
			}
			p = q
		}
		q, got, whole, code := Add(p, 4+i, i, len(l), piece)
		if code != api.OK || whole != (i == len(l)-1) || whole && !bytes.Equal(got, b) {
			t.Fatalf("piece %d: %s, %q, %t, %d", i, told(q), got, whole, code)
		}
		p = q
	}
}

// call is a call that is handed bytes of a message under way and of a piece, and gives lists back.
type call func(p, piece []byte) [][]byte

// calls are all calls that give lists back: with a piece taken, with the last one, and with one refused.
func calls() map[string]call {
	add := func(total, got, index, of int) call {
		return func(b, piece []byte) [][]byte {
			q, whole, _, _ := Add(api.Part{Seq: 4, Total: total, Got: got, B: b}, 5, index, of, piece)
			return [][]byte{q.B, whole}
		}
	}
	cut := func(mtu int) call {
		return func(b, piece []byte) [][]byte { return append(Cut(b, mtu), Cut(piece, mtu)...) }
	}
	return map[string]call{
		"the first piece":       add(0, 0, 0, 3),
		"the only piece":        add(0, 0, 0, 1),
		"a piece between":       add(3, 1, 1, 3),
		"the last piece":        add(3, 2, 2, 3),
		"another index":         add(3, 1, 2, 3),
		"another total":         add(3, 1, 1, 2),
		"a total too great":     add(3, 1, 1, 33),
		"none under way":        add(0, 0, 1, 3),
		"the greatest count":    add(3, math.MaxInt, math.MaxInt, 3),
		"cut in bytes":          cut(1),
		"cut in twos":           cut(2),
		"cut in whole messages": cut(6),
		"cut with room":         cut(100),
		"cut in the greatest":   cut(math.MaxInt),
		"cut in none":           cut(0),
	}
}

// bodies are bytes that are handed in: ordinary ones and none.
func bodies(visit func(b, piece []byte)) {
	for _, b := range []string{"", "a", "abcdef"} {
		for _, piece := range []string{"", "x", "uvwxyz"} {
			visit([]byte(b), []byte(piece))
		}
	}
}

// roomy are bytes with others behind their end, and all of these.
func roomy(b []byte) (part, whole []byte) {
	whole = append(bytes.Clone(b), "behind the end"...)
	return whole[:len(b)], whole
}

// P6.1, P6.2, R3: what is handed in is not written into, not even behind its end, nor by whoever has the answer.
func TestArgumentsStay(t *testing.T) {
	for name, run := range calls() {
		bodies(func(b, piece []byte) {
			p, allP := roomy(b)
			x, allX := roomy(piece)
			was := fmt.Sprintf("%q %q", allP, allX)
			out := run(p, x)
			if now := fmt.Sprintf("%q %q", allP, allX); now != was {
				t.Errorf("%s: written into: %s, was %s", name, now, was)
			}
			for _, l := range out {
				clear(l[:cap(l)])
			}
			if now := fmt.Sprintf("%q %q", allP, allX); now != was {
				t.Errorf("%s shares memory with what it was given: %s, was %s", name, now, was)
			}
		})
	}
	a, allA := roomy([]byte("ab"))
	b, allB := roomy([]byte("ab"))
	Same(api.Part{B: a}, api.Part{B: b})
	if string(allA) != "abbehind the end" || string(allB) != "abbehind the end" {
		t.Errorf("Same: written into: %q, %q", allA, allB)
	}
}

// P6.1, P6.2, R3: what was given back stays as it is, whatever becomes of what was handed in.
func TestAnswersStay(t *testing.T) {
	for name, run := range calls() {
		bodies(func(b, piece []byte) {
			p, allP := roomy(b)
			x, allX := roomy(piece)
			out := run(p, x)
			was := fmt.Sprintf("%q", out)
			clear(allP)
			clear(allX)
			if now := fmt.Sprintf("%q", out); now != was {
				t.Errorf("%s: %s, was %s", name, now, was)
			}
		})
	}
}

// P6.1, P6.2: no two lists of one answer share memory: bytes that are laid behind a piece are not the next one's.
func TestListsAreApart(t *testing.T) {
	for name, run := range calls() {
		bodies(func(b, piece []byte) {
			out := run(b, piece)
			for i, l := range out {
				all := l[:cap(l)]
				for k := range all {
					all[k] = byte(i + 1)
				}
			}
			for i, l := range out {
				for _, x := range l[:cap(l)] {
					if x != byte(i+1) {
						t.Fatalf("%s: the bytes of %d are also another's", name, i)
					}
				}
			}
		})
	}
}

// P6.2: what goes on from one message under way in two ways is apart: neither way is seen in the other.
func TestWaysAreApart(t *testing.T) {
	p, _, _, _ := Add(api.Part{}, 4, 0, 4, []byte("ab"))
	p, _, _, _ = Add(p, 5, 1, 4, []byte("cdefg"))
	q, _, _, _ := Add(p, 6, 2, 4, []byte("one"))
	r, _, _, _ := Add(p, 6, 2, 4, []byte("two"))
	if string(q.B) != "abcdefgone" || string(r.B) != "abcdefgtwo" || string(p.B) != "abcdefg" {
		t.Errorf("%q, %q, of %q", q.B, r.B, p.B)
	}
}

// P6.1: pieces that are asked for one by one may be left off, and are told from the beginning at each walk.
func TestPiecesLeftOff(t *testing.T) {
	walk := pieces([]byte("abcde"), 2)
	for range 2 {
		var seen []string
		for piece := range walk {
			seen = append(seen, string(piece))
			if len(seen) == 2 {
				break
			}
		}
		if !slices.Equal(seen, []string{"ab", "cd"}) {
			t.Errorf("%q", seen)
		}
	}
}
