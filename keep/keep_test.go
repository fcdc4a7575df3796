package keep

import (
	"bytes"
	"fmt"
	"math"
	"slices"
	"testing"

	"precentor/api"
	"precentor/item"
)

const far = 1 << 62

// plain is an ordinary item of a kind.
func plain(kind, seq int) api.Item {
	it := api.Item{Kind: kind, Seq: seq, Epoch: 5}
	switch kind {
	case api.IData:
		it.Index, it.Total, it.Body = 1, 3, []byte("hi")
	case api.IOrder:
		it.Index, it.L = 1, []int{0, 63, 2}
	case api.IFlush:
		it.Index = 1
	case api.IAck:
		it.Count = 7
	case api.IInstall:
		it.L = []int{3, 4}
	}
	return it
}

// stream is a right stream of so many items of all kinds, the last one's number one less than next.
func stream(next, many int) api.Keep {
	k := api.Keep{Next: next}
	for i := range many {
		k.L = append(k.L, plain(1+i%6, next-many+i))
	}
	return k
}

// told is a stream as a text: another way than Same to hold two against each other.
func told(k api.Keep) string {
	s := fmt.Sprintf("next %d, %d:", k.Next, len(k.L))
	for _, it := range k.L {
		s += " " + toldItem(it)
	}
	return s
}

// toldItem is an item as a text.
func toldItem(it api.Item) string {
	return fmt.Sprintf("(%d %d %d %d %d %d %v %x)", it.Kind, it.Seq, it.Epoch, it.Index, it.Total, it.Count, it.L, it.Body)
}

// nothing is no item, as a text.
var nothing = toldItem(api.Item{})

// copied is a stream with memory of its own.
func copied(k api.Keep) api.Keep {
	k.L = slices.Clone(k.L)
	for i := range k.L {
		k.L[i].L, k.L[i].Body = slices.Clone(k.L[i].L), bytes.Clone(k.L[i].Body)
	}
	return k
}

// turned is a stream that is turned, and the one that it was of stays as it is.
func turned(k api.Keep, turn func(k *api.Keep)) api.Keep {
	k = copied(k)
	turn(&k)
	return k
}

// good are right streams.
func good() []api.Keep {
	l := []api.Keep{{Next: 1}, {Next: 1, L: []api.Item{}}, {Next: 2}, {Next: 1000}, {Next: far - 1}, {Next: far}, {Next: far + 1}}
	for _, many := range []int{1, 2, 7, 63, 64} {
		for _, next := range []int{many + 1, many + 2, 1000, far, far + 1} {
			l = append(l, stream(next, many))
		}
	}
	return l
}

// unfit are items that may not be, whatever their numbers are.
func unfit(seq int) []api.Item {
	l := []api.Item{
		{Seq: seq},
		{Kind: 7, Seq: seq},
		{Kind: -1, Seq: seq},
		{Kind: math.MaxInt, Seq: seq},
		{Kind: api.IToken, Seq: seq, Epoch: -1},
		{Kind: api.IToken, Seq: seq, Epoch: far + 1},
		{Kind: api.IToken, Seq: seq, Body: []byte{1}},
		{Kind: api.IToken, Seq: seq, Count: 1},
		{Kind: api.IData, Seq: seq},
		{Kind: api.IData, Seq: seq, Total: 33},
		{Kind: api.IData, Seq: seq, Total: 3, Index: 3},
		{Kind: api.IData, Seq: seq, Total: 1, Body: make([]byte, 1025)},
		{Kind: api.IOrder, Seq: seq},
		{Kind: api.IOrder, Seq: seq, L: []int{64}},
		{Kind: api.IFlush, Seq: seq, Index: 2},
		{Kind: api.IAck, Seq: seq, Count: -1},
		{Kind: api.IInstall, Seq: seq, L: []int{1}},
	}
	return l
}

// P8.1: a new stream begins with number 1, and keeps nothing.
func TestNew(t *testing.T) {
	k := New()
	if k.Next != 1 || len(k.L) != 0 || !Right(k) {
		t.Error(told(k))
	}
}

// P8.1: streams that are right: of none to 64 items, of all kinds, up to the last number.
func TestRight(t *testing.T) {
	for _, k := range good() {
		if !Right(k) {
			t.Error(told(k))
		}
	}
	whole := stream(7, 6)
	whole.L[0].Body = make([]byte, 1024)
	if !Right(whole) {
		t.Error("a piece of 1024 bytes")
	}
}

// P8.1: Next is from 1 to Far and 1, whatever is kept.
func TestRightNext(t *testing.T) {
	for _, next := range []int{0, -1, -2, -64, -far, math.MinInt, math.MinInt + 1, far + 2, far + 3, far + 64, math.MaxInt - 1, math.MaxInt} {
		if Right(api.Keep{Next: next}) {
			t.Errorf("nothing kept, next %d", next)
		}
		for _, many := range []int{1, 2, 64} {
			// Numbers that would go round at the least int are of no use to anybody.
			if k := stream(next, many); Right(k) {
				t.Error(told(k))
			}
			for _, base := range []int{65, far, far + 1} {
				if k := turned(stream(base, many), func(k *api.Keep) { k.Next = next }); Right(k) {
					t.Error(told(k))
				}
			}
		}
	}
	for many := 1; many <= 64; many++ {
		for next := 1; next <= many; next++ {
			if k := stream(next, many); Right(k) {
				t.Error(told(k))
			}
		}
	}
}

// P8.1: no more than 64 items.
func TestRightMany(t *testing.T) {
	for _, many := range []int{65, 66, 100, 128, 256 + 3} {
		for _, next := range []int{many + 1, 1000, far, far + 1} {
			if Right(stream(next, many)) {
				t.Errorf("%d items, next %d", many, next)
			}
		}
	}
}

// P8.1: a stream with an item that may not be isn't right, wherever that stands.
func TestRightItems(t *testing.T) {
	for _, many := range []int{1, 2, 5, 64} {
		for _, next := range []int{many + 1, 1000, far + 1} {
			for at := range many {
				for _, it := range unfit(next - many + at) {
					k := stream(next, many)
					k.L[at] = it
					if Right(k) {
						t.Errorf("next %d, item %d of %d: %s", next, at, many, toldItem(it))
					}
				}
			}
		}
	}
}

// P8.1: numbers rise by one, and the last one's is one less than Next.
func TestRightNumbers(t *testing.T) {
	for _, many := range []int{1, 2, 3, 5, 64} {
		for _, next := range []int{many + 1, 70, 1000, far, far + 1} {
			for at := range many {
				for _, seq := range []int{0, -1, next, next + 1, far + 1, math.MaxInt, math.MinInt, next - many + at - 1, next - many + at + 1, next - many + at + 1<<32} {
					k := stream(next, many)
					k.L[at].Seq = seq
					if Right(k) {
						t.Errorf("item %d of %d, next %d: number %d", at, many, next, seq)
					}
				}
			}
		}
	}
	for name, turn := range map[string]func(k *api.Keep){
		"one left out":          func(k *api.Keep) { k.L = slices.Delete(k.L, 2, 3) },
		"the last one left out": func(k *api.Keep) { k.L = k.L[:4] },
		"one twice":             func(k *api.Keep) { k.L = slices.Insert(k.L, 2, k.L[2]) },
		"the last one twice":    func(k *api.Keep) { k.L = append(k.L, k.L[4]) },
		"the first one twice":   func(k *api.Keep) { k.L = slices.Insert(k.L, 0, k.L[0]) },
		"one in another's room": func(k *api.Keep) { k.L[2] = k.L[1] },
		"two turned about":      func(k *api.Keep) { k.L[2], k.L[3] = k.L[3], k.L[2] },
		"all turned about":      func(k *api.Keep) { slices.Reverse(k.L) },
		"next one more":         func(k *api.Keep) { k.Next++ },
		"next one less":         func(k *api.Keep) { k.Next-- },
		"next the last one's":   func(k *api.Keep) { k.Next = k.L[4].Seq },
		"next the first one's":  func(k *api.Keep) { k.Next = k.L[0].Seq },
		"next anew":             func(k *api.Keep) { k.Next = 1 },
		"next far on":           func(k *api.Keep) { k.Next += 1 << 32 },
		"one less each":         func(k *api.Keep) { less(k.L) },
	} {
		for _, next := range []int{7, 100, far} {
			if k := turned(stream(next, 5), turn); Right(k) {
				t.Errorf("%s: %s", name, told(k))
			}
		}
	}
	// Without its first item a stream is as right as with it.
	if k := stream(100, 5); !Right(api.Keep{Next: 100, L: k.L[1:]}) {
		t.Error("the first one left out")
	}
}

// less: each number is one less.
func less(l []api.Item) {
	for i := range l {
		l[i].Seq--
	}
}

// P8.1: streams are the same just if all of them is, right or not.
func TestSame(t *testing.T) {
	l := append(good(), api.Keep{}, api.Keep{Next: -1}, api.Keep{Next: math.MaxInt}, api.Keep{Next: math.MinInt}, stream(3, 5), stream(70, 65), api.Keep{Next: 2, L: unfit(1)})
	texts := make([]string, len(l))
	for i, k := range l {
		texts[i] = told(k)
	}
	for i, k := range l {
		if !Same(k, k) || !Same(k, copied(k)) || !Same(copied(k), k) {
			t.Errorf("%s isn't the same as itself", texts[i])
		}
		for j, x := range l {
			if got, want := Same(k, x), texts[i] == texts[j]; got != want {
				t.Errorf("%s and %s: %t", texts[i], texts[j], got)
			}
		}
	}
}

// P8.1: streams that differ in one thing alone are not the same.
func TestSameButForOne(t *testing.T) {
	different := func(name string, a, b api.Keep) {
		t.Helper()
		if Same(a, b) || Same(b, a) {
			t.Errorf("%s: %s and %s are the same", name, told(a), told(b))
		}
	}
	base := stream(20, 6)
	for name, turn := range map[string]func(k *api.Keep){
		"next one more":    func(k *api.Keep) { k.Next++ },
		"next one less":    func(k *api.Keep) { k.Next-- },
		"next far on":      func(k *api.Keep) { k.Next += 1 << 32 },
		"one item more":    func(k *api.Keep) { k.L = append(k.L, plain(3, 20)) },
		"an empty one":     func(k *api.Keep) { k.L = append(k.L, api.Item{}) },
		"none":             func(k *api.Keep) { k.L = nil },
		"without the last": func(k *api.Keep) { k.L = k.L[:5] },
		"without a first":  func(k *api.Keep) { k.L = k.L[1:] },
		"two turned about": func(k *api.Keep) { k.L[2], k.L[3] = k.L[3], k.L[2] },
	} {
		different(name, base, turned(base, turn))
	}
	for at := range base.L {
		for name, turn := range map[string]func(it *api.Item){
			"kind":          func(it *api.Item) { it.Kind++ },
			"number":        func(it *api.Item) { it.Seq++ },
			"epoch":         func(it *api.Item) { it.Epoch++ },
			"index":         func(it *api.Item) { it.Index++ },
			"total":         func(it *api.Item) { it.Total++ },
			"count":         func(it *api.Item) { it.Count++ },
			"a member more": func(it *api.Item) { it.L = append(it.L, 0) },
			"a byte more":   func(it *api.Item) { it.Body = append(it.Body, 0) },
		} {
			different(name, base, turned(base, func(k *api.Keep) { turn(&k.L[at]) }))
		}
		for i := range base.L[at].L {
			different("one of its list", base, turned(base, func(k *api.Keep) { k.L[at].L[i]++ }))
		}
		for i := range base.L[at].Body {
			different("one of its bytes", base, turned(base, func(k *api.Keep) { k.L[at].Body[i] ^= 0x80 }))
		}
	}
}

// P8.1: no elements are no elements.
func TestSameOfEmpty(t *testing.T) {
	lists := [][]api.Item{nil, {}, make([]api.Item, 0, 3)}
	for _, a := range lists {
		for _, b := range lists {
			if !Same(api.Keep{Next: 4, L: a}, api.Keep{Next: 4, L: b}) {
				t.Errorf("%#v and %#v", a, b)
			}
			if Same(api.Keep{Next: 4, L: a}, api.Keep{Next: 5, L: b}) {
				t.Errorf("%#v and %#v, but for next", a, b)
			}
		}
	}
	a := api.Keep{Next: 2, L: []api.Item{{Kind: api.IToken, Seq: 1}}}
	b := api.Keep{Next: 2, L: []api.Item{{Kind: api.IToken, Seq: 1, L: []int{}, Body: []byte{}}}}
	if !Same(a, b) || !Same(b, a) || !Right(b) {
		t.Error("an item's empty lists")
	}
}

// P8.1: the room, of ordinary numbers and at the edges.
func TestRoom(t *testing.T) {
	for _, x := range []struct{ many, buf, spare, want int }{
		{0, 0, 0, 0}, {0, 1, 0, 1}, {0, 8, 0, 8}, {0, 8, 3, 5}, {0, 8, 6, 2}, {0, 8, 7, 1}, {0, 8, 8, 0}, {0, 8, 9, 0},
		{0, 64, 0, 64}, {0, 64, 6, 58}, {0, 63, 0, 63}, {0, 64, 63, 1}, {0, 64, 64, 0}, {0, 64, 65, 0},
		{3, 8, 0, 5}, {3, 8, 3, 2}, {3, 8, 4, 1}, {3, 8, 5, 0}, {3, 8, 6, 0}, {3, 8, 8, 0}, {3, 8, 9, 0},
		{5, 8, 3, 0}, {5, 8, 2, 1}, {8, 8, 0, 0}, {7, 8, 0, 1}, {9, 8, 0, 0}, {64, 8, 0, 0}, {64, 0, 0, 0}, {1, 0, 0, 0},
		{64, 64, 0, 0}, {63, 64, 0, 1}, {63, 64, 1, 0}, {63, 64, 2, 0}, {64, 63, 0, 0}, {64, 64, 64, 0},
		{0, 65, 0, 0}, {0, 66, 3, 0}, {3, 65, 0, 0}, {0, 128, 70, 0}, {0, 1 << 32, 0, 0}, {0, 1<<32 + 8, 0, 0}, {0, math.MaxInt, 0, 0}, {0, math.MaxInt, math.MaxInt - 5, 0},
		{0, -1, 0, 0}, {0, -1, -5, 0}, {0, math.MinInt, 0, 0}, {0, math.MinInt, 1, 0}, {0, math.MinInt, math.MaxInt, 0},
		{0, 8, -1, 0}, {0, 8, -8, 0}, {3, 8, -3, 0}, {3, 3, -1, 0}, {0, 8, math.MinInt, 0}, {0, 64, math.MinInt + 1, 0}, {0, 0, -1, 0},
		{0, 8, math.MaxInt, 0}, {0, 0, math.MaxInt, 0}, {64, 0, math.MaxInt, 0}, {64, 64, math.MaxInt, 0}, {2, 0, math.MaxInt, 0}, {64, 8, math.MaxInt - 1, 0}, {64, 0, math.MaxInt - 62, 0}, {0, 8, 1 << 32, 0}, {0, 8, 1<<32 + 3, 0},
	} {
		for _, next := range []int{x.many + 1, 1000, far - 1, far} {
			if got := Room(stream(next, x.many), x.buf, x.spare); got != x.want {
				t.Errorf("%d kept, next %d, buf %d, spare %d: %d, want %d", x.many, next, x.buf, x.spare, got, x.want)
			}
		}
		if got := Room(stream(far+1, x.many), x.buf, x.spare); got != 0 {
			t.Errorf("%d kept, no number left, buf %d, spare %d: %d", x.many, x.buf, x.spare, got)
		}
	}
}

// P8.1: the room of all small numbers.
func TestRoomOfSmall(t *testing.T) {
	for many := 0; many <= 64; many++ {
		k := stream(70, many)
		for buf := -2; buf <= 67; buf++ {
			for spare := -2; spare <= 67; spare++ {
				want := 0
				if buf >= 0 && buf <= 64 && spare >= 0 && buf-spare-many > 0 {
					want = buf - spare - many
				}
				if got := Room(k, buf, spare); got != want {
					t.Fatalf("%d kept, buf %d, spare %d: %d, want %d", many, buf, spare, got, want)
				}
			}
		}
	}
}

// pushed: an item is kept behind all others, with Next as its number.
func pushed(t *testing.T, k api.Keep, it api.Item, buf, spare int) api.Keep {
	t.Helper()
	want := it
	want.Seq = k.Next
	all := copied(k)
	all.L = append(all.L, want)
	all.Next++
	x, got, code := Push(k, it, buf, spare)
	if code != api.OK || toldItem(got) != toldItem(want) || told(x) != told(all) || !Right(x) {
		t.Errorf("%s and %s, buf %d, spare %d: %s, %s, %d", told(k), toldItem(it), buf, spare, told(x), toldItem(got), code)
	}
	return x
}

// refused: a push is refused, and the stream is told as it was, with nothing.
func refused(t *testing.T, k api.Keep, it api.Item, buf, spare int, want api.Errno) {
	t.Helper()
	was := told(k)
	x, got, code := Push(k, it, buf, spare)
	if code != want || toldItem(got) != nothing || got.L != nil || got.Body != nil || told(x) != was {
		t.Errorf("%s and %s, buf %d, spare %d: %s, %s, %d, want %d", was, toldItem(it), buf, spare, told(x), toldItem(got), code, want)
	}
}

// P8.2: items of all kinds, whatever their Seq is.
func TestPush(t *testing.T) {
	for _, k := range good() {
		if k.Next > far || len(k.L) == 64 {
			continue
		}
		for kind := api.IData; kind <= api.IInstall; kind++ {
			for _, seq := range []int{1, 0, -1, 99, k.Next, k.Next - 1, k.Next + 1, far, far + 1, math.MaxInt, math.MinInt} {
				pushed(t, k, plain(kind, seq), 64, 0)
				pushed(t, k, plain(kind, seq), len(k.L)+1, 0)
				pushed(t, k, plain(kind, seq), 64, 63-len(k.L))
			}
		}
	}
	whole := plain(api.IData, 0)
	whole.Body = bytes.Repeat([]byte{7}, 1024)
	pushed(t, stream(9, 3), whole, 8, 3)
	pushed(t, stream(9, 3), api.Item{Kind: api.IToken, L: []int{}, Body: []byte{}}, 8, 3)
	pushed(t, stream(9, 3), api.Item{Kind: api.IData, Total: 1}, 8, 3)
}

// P8.2: the example: a token pushed twice, and the first one freed.
func TestTokens(t *testing.T) {
	token := api.Item{Kind: api.IToken, Epoch: 2}
	one, first, code := Push(New(), token, 8, 3)
	if code != api.OK || first.Seq != 1 {
		t.Error(first, code)
	}
	two, second, code := Push(one, token, 8, 3)
	if code != api.OK || second.Seq != 2 {
		t.Error(second, code)
	}
	if k := Free(two, 1); told(k) != told(api.Keep{Next: 3, L: []api.Item{second}}) {
		t.Error(told(k))
	}
}

// P8.2: an item that may not be is refused as such, with room and without.
func TestPushArg(t *testing.T) {
	rooms := [][2]int{{64, 0}, {8, 9}, {0, 0}, {-1, 0}, {65, 0}, {8, -1}, {8, math.MaxInt}}
	for _, k := range good() {
		for _, seq := range []int{1, k.Next, far + 1} {
			for _, it := range unfit(seq) {
				for _, r := range rooms {
					refused(t, k, it, r[0], r[1], api.ErrArg)
				}
			}
		}
	}
}

// P8.2: an item that may be is refused where there is no room.
func TestPushFull(t *testing.T) {
	for _, k := range good() {
		for kind := api.IData; kind <= api.IInstall; kind++ {
			for _, r := range [][2]int{{len(k.L), 0}, {64, 64 - len(k.L)}, {64, 65 - len(k.L)}, {64, 64}, {8, 8}, {8, 9}, {0, 0}, {-1, 0}, {-1, -2}, {65, 0}, {math.MaxInt, 0}, {math.MinInt, 1}, {64, -1}, {64, math.MinInt}, {64, math.MaxInt}, {0, math.MaxInt}} {
				refused(t, k, plain(kind, 1), r[0], r[1], api.ErrFull)
				refused(t, k, plain(kind, far+1), r[0], r[1], api.ErrFull)
			}
		}
	}
}

// P8.2: the last number is given; behind it there is no room, whatever the item's Seq is.
func TestPushLastNumber(t *testing.T) {
	for many := range 5 {
		for kind := api.IData; kind <= api.IInstall; kind++ {
			k := pushed(t, stream(far, many), plain(kind, 1), 64, 0)
			if k.Next != far+1 || k.L[many].Seq != far {
				t.Error(told(k))
			}
			for _, seq := range []int{1, 0, -1, far, far + 1, math.MaxInt, math.MinInt} {
				refused(t, k, plain(kind, seq), 64, 0, api.ErrFull)
				refused(t, Free(k, far), plain(kind, seq), 64, 0, api.ErrFull)
				bad := plain(kind, seq)
				bad.Epoch = -1
				refused(t, k, bad, 64, 0, api.ErrArg)
			}
		}
	}
}

// P8.2: there is room for just as many items as Room tells.
func TestPushUntilFull(t *testing.T) {
	for buf := range 65 {
		for _, spare := range []int{0, 1, 3, 6, buf - 1, buf, buf + 1} {
			k := New()
			for room := Room(k, buf, spare); room > 0; room-- {
				if got := Room(k, buf, spare); got != room {
					t.Errorf("buf %d, spare %d, %d kept: room %d, want %d", buf, spare, len(k.L), got, room)
				}
				k = pushed(t, k, plain(api.IToken, 9), buf, spare)
			}
			if want := max(0, buf-spare); spare >= 0 && len(k.L) != want {
				t.Errorf("buf %d, spare %d: %d kept, want %d", buf, spare, len(k.L), want)
			}
			refused(t, k, plain(api.IToken, 9), buf, spare, api.ErrFull)
		}
	}
}

// freed: those of a stream that are above a number, reckoned one by one.
func freed(k api.Keep, upto int) api.Keep {
	out := api.Keep{Next: k.Next}
	for _, it := range k.L {
		if it.Seq > upto {
			out.L = append(out.L, it)
		}
	}
	return out
}

// P8.3: freed up to a number: below the first one, at each one, and beyond.
func TestFree(t *testing.T) {
	for _, k := range good() {
		uptos := []int{0, 1, -1, -far, math.MinInt, math.MinInt + 1, math.MaxInt, math.MaxInt - 1, far, far + 1, k.Next - 2, k.Next - 1, k.Next, k.Next + 1}
		for i := range k.L {
			uptos = append(uptos, k.L[i].Seq-1, k.L[i].Seq, k.L[i].Seq+1, k.L[i].Seq-1<<32, k.L[i].Seq+1<<32)
		}
		for _, upto := range uptos {
			x := Free(k, upto)
			if told(x) != told(freed(k, upto)) || !Right(x) {
				t.Errorf("%s, up to %d: %s", told(k), upto, told(x))
			}
		}
	}
}

// P8.3: how many are left, of a stream of five, numbers 10 to 14.
func TestFreeKnown(t *testing.T) {
	for upto, want := range map[int]int{math.MinInt: 5, 0: 5, 8: 5, 9: 5, 10: 4, 11: 3, 12: 2, 13: 1, 14: 0, 15: 0, 16: 0, math.MaxInt: 0} {
		x := Free(stream(15, 5), upto)
		if len(x.L) != want || x.Next != 15 {
			t.Errorf("up to %d: %s", upto, told(x))
		}
		if want > 0 && (x.L[0].Seq != 15-want || x.L[want-1].Seq != 14) {
			t.Errorf("up to %d: %s", upto, told(x))
		}
	}
}

// P8.3: each item that is kept is got, and no other.
func TestGet(t *testing.T) {
	for _, k := range good() {
		for i, it := range k.L {
			if got, ok := Get(k, it.Seq); !ok || toldItem(got) != toldItem(k.L[i]) {
				t.Errorf("%s: item %d: %s, %t", told(k), it.Seq, toldItem(got), ok)
			}
		}
		first := k.Next - len(k.L)
		for _, seq := range []int{first - 1, first - 2, k.Next, k.Next + 1, k.Next + 1<<32, 0, -1, -first, far + 1, math.MaxInt, math.MinInt} {
			if got, ok := Get(k, seq); ok || toldItem(got) != nothing || got.L != nil || got.Body != nil {
				t.Errorf("%s: item %d: %s, %t", told(k), seq, toldItem(got), ok)
			}
		}
	}
}

// random are numbers that look like chance, and are the same at each run.
type random uint64

// below is the next number, from 0 to one less than n.
func (r *random) below(n int) int {
	*r = *r*6364136223846793005 + 1442695040888963407
	return int(uint64(*r)>>33) % n
}

// P8.4: streams stay right; what is pushed is kept, with its number, until it is freed; numbers are given once.
func TestManyTurns(t *testing.T) {
	for seed := range 40 {
		r := random(seed)
		k := New()
		if seed%4 == 3 {
			k.Next = far - 100
		}
		mine, next := map[int]string{}, k.Next
		for range 300 {
			switch r.below(5) {
			case 0:
				upto := next - 8 + r.below(10)
				k = Free(k, upto)
				for seq := range mine {
					if seq <= upto {
						delete(mine, seq)
					}
				}
			default:
				it, buf, spare := plain(1+r.below(6), r.below(9)), r.below(67), r.below(8)
				it.Epoch = r.below(1000) - 20
				x, got, code := Push(k, it, buf, spare)
				wants := code == api.OK
				if free := buf <= 64 && next <= far && buf-spare-len(mine) > 0; wants != (free && it.Epoch >= 0) {
					t.Fatalf("seed %d: %s, buf %d, spare %d: %d", seed, told(k), buf, spare, code)
				}
				if wants {
					it.Seq = next
					mine[next] = toldItem(it)
					next++
				}
				if wants && toldItem(got) != toldItem(it) {
					t.Fatalf("seed %d: %s, want %s", seed, toldItem(got), toldItem(it))
				}
				k = x
			}
			checked(t, k, mine, next)
		}
	}
}

// checked: a stream is right, and keeps just these items.
func checked(t *testing.T, k api.Keep, mine map[int]string, next int) {
	t.Helper()
	if !Right(k) || k.Next != next || len(k.L) != len(mine) {
		t.Fatalf("%s, want %d items, next %d", told(k), len(mine), next)
	}
	for seq, want := range mine {
		if it, ok := Get(k, seq); !ok || toldItem(it) != want || !item.May(it) {
			t.Fatalf("item %d: %s, %t, want %s", seq, toldItem(it), ok, want)
		}
	}
}

// roomyItem is an item whose lists have values behind their end.
func roomyItem(it api.Item) api.Item {
	it.L = append(slices.Clone(it.L), 71, 72, 73)[:len(it.L)]
	it.Body = append(bytes.Clone(it.Body), "behind"...)[:len(it.Body)]
	return it
}

// roomy is a stream whose lists have values behind their end.
func roomy(k api.Keep) api.Keep {
	many := len(k.L)
	l := make([]api.Item, 0, many+3)
	for _, it := range k.L {
		l = append(l, roomyItem(it))
	}
	for i := range 3 {
		l = append(l, roomyItem(plain(api.IOrder, 900+i)))
	}
	k.L = l[:many]
	return k
}

// deepItem is an item as a text, with what is behind the ends of its lists.
func deepItem(it api.Item) string {
	it.L, it.Body = it.L[:cap(it.L)], it.Body[:cap(it.Body)]
	return toldItem(it)
}

// deep is a stream as a text, with what is behind the ends of its lists.
func deep(k api.Keep) string {
	s := fmt.Sprint(k.Next, len(k.L))
	for _, it := range k.L[:cap(k.L)] {
		s += deepItem(it)
	}
	return s
}

// spoil writes over all of an item's lists, up to the end of their room.
func spoil(it *api.Item) {
	for i := range it.L[:cap(it.L)] {
		it.L[:cap(it.L)][i] = -7
	}
	for i := range it.Body[:cap(it.Body)] {
		it.Body[:cap(it.Body)][i] = 0xee
	}
}

// spoilAll writes over all of a stream, up to the end of its room.
func spoilAll(k api.Keep) {
	l := k.L[:cap(k.L)]
	for i := range l {
		spoil(&l[i])
		l[i] = api.Item{Kind: -7}
	}
}

// calls are all calls that answer streams or items, with one stream and one item.
func calls(k api.Keep, it api.Item) map[string]func() ([]api.Keep, []api.Item) {
	push := func(it api.Item, buf, spare int) func() ([]api.Keep, []api.Item) {
		return func() ([]api.Keep, []api.Item) {
			x, got, _ := Push(k, it, buf, spare)
			return []api.Keep{x}, []api.Item{got}
		}
	}
	free := func(upto int) func() ([]api.Keep, []api.Item) {
		return func() ([]api.Keep, []api.Item) { return []api.Keep{Free(k, upto)}, nil }
	}
	unfit := it
	unfit.Epoch = -1
	out := map[string]func() ([]api.Keep, []api.Item){
		"push":      push(it, 64, 0),
		"push full": push(it, 0, 0),
		"push arg":  push(unfit, 64, 0),
		"free none": free(0),
		"free some": free(k.Next - 3),
		"free all":  free(k.Next),
	}
	for i, x := range k.L {
		out[fmt.Sprint("get ", i)] = func() ([]api.Keep, []api.Item) {
			got, _ := Get(k, x.Seq)
			return nil, []api.Item{got}
		}
	}
	return out
}

// R3: what is handed in is not written into, not even behind its end, and shares no memory with what is answered.
func TestArgumentsStay(t *testing.T) {
	for _, many := range []int{0, 1, 5, 12} {
		for kind := api.IData; kind <= api.IInstall; kind++ {
			k, it := roomy(stream(20, many)), roomyItem(plain(kind, 4))
			wasK, wasIt := deep(k), deepItem(it)
			for name, call := range calls(k, it) {
				ks, its := call()
				Right(k)
				Same(k, k)
				Room(k, 64, 1)
				if deep(k) != wasK || deepItem(it) != wasIt {
					t.Errorf("%s wrote into its arguments", name)
				}
				for _, x := range ks {
					spoilAll(x)
				}
				for _, x := range its {
					spoil(&x)
				}
				if deep(k) != wasK || deepItem(it) != wasIt {
					t.Errorf("%s: what is answered is what was handed in", name)
				}
			}
		}
	}
}

// R3: what was answered stays as it is, whatever is called later, and whatever becomes of what was handed in.
func TestAnswersStay(t *testing.T) {
	for _, many := range []int{0, 1, 5, 12} {
		for kind := api.IData; kind <= api.IInstall; kind++ {
			names := calls(stream(20, many), plain(kind, 4))
			for name := range names {
				k, it := roomy(stream(20, many)), roomyItem(plain(kind, 4))
				ks, its := calls(k, it)[name]()
				was := toldAll(ks, its)
				spoilAll(k)
				spoil(&it)
				if toldAll(ks, its) != was {
					t.Errorf("%s: what was answered is turned with what was handed in", name)
				}
				for _, x := range ks {
					for _, later := range calls(x, plain(api.IOrder, 4)) {
						later()
					}
				}
				if toldAll(ks, its) != was {
					t.Errorf("%s: what was answered is turned by a later call", name)
				}
			}
		}
	}
}

// toldAll are streams and items as a text.
func toldAll(ks []api.Keep, its []api.Item) string {
	s := ""
	for _, k := range ks {
		s += told(k)
	}
	for _, it := range its {
		s += toldItem(it)
	}
	return s
}

// R3: two streams that grow out of one do not see each other.
func TestTwoOfOne(t *testing.T) {
	for many := range 20 {
		base := roomy(stream(30, many))
		a, _, _ := Push(base, plain(api.IData, 0), 64, 0)
		wasA := told(a)
		b, _, _ := Push(base, plain(api.IOrder, 0), 64, 0)
		wasB := told(b)
		c, _, _ := Push(Free(a, 25), plain(api.IInstall, 0), 64, 0)
		d, _, _ := Push(Free(a, 25), plain(api.IFlush, 0), 64, 0)
		if told(a) != wasA || told(b) != wasB || a.L[many].Kind != api.IData || b.L[many].Kind != api.IOrder {
			t.Errorf("%d kept: %s, %s", many, told(a), told(b))
		}
		if c.L[len(c.L)-1].Kind != api.IInstall || d.L[len(d.L)-1].Kind != api.IFlush {
			t.Errorf("%d kept: %s, %s", many, told(c), told(d))
		}
	}
}

// R3: the item that Push tells shares nothing with the one that it keeps, nor do the lists of what is kept with each other.
func TestListsAreApart(t *testing.T) {
	body, l := bytes.Repeat([]byte{1}, 9), []int{3, 4}
	k := api.Keep{Next: 3, L: []api.Item{
		{Kind: api.IData, Seq: 1, Total: 1, Body: body},
		{Kind: api.IData, Seq: 2, Total: 1, Body: body[3:]},
	}}
	for _, it := range []api.Item{{Kind: api.IData, Total: 1, Body: body}, {Kind: api.IInstall, L: l}, {Kind: api.IOrder, L: l}} {
		x, got, _ := Push(k, it, 64, 0)
		was := told(x)
		spoil(&got)
		if told(x) != was {
			t.Error("the item that is told is the one that is kept")
		}
		for i := range x.L {
			spoil(&x.L[i])
			for j := i + 1; j < len(x.L); j++ {
				if slices.Contains(x.L[j].Body, 0xee) || slices.Contains(x.L[j].L, -7) {
					t.Errorf("items %d and %d share memory", i, j)
				}
			}
		}
		if !bytes.Equal(body, bytes.Repeat([]byte{1}, 9)) || !slices.Equal(l, []int{3, 4}) {
			t.Error("what was handed in is turned")
		}
	}
	x := Free(k, 0)
	spoil(&x.L[0])
	if !bytes.Equal(x.L[1].Body, body[3:]) {
		t.Error("freed: items share memory")
	}
}
