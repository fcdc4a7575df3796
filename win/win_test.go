package win

import (
	"bytes"
	"fmt"
	"math"
	"slices"
	"strings"
	"testing"

	"precentor/api"
)

const far = 1 << 62

// plain is an ordinary item of a kind.
func plain(kind, seq int) api.Item {
	it := api.Item{Kind: kind, Seq: seq, Epoch: 5}
	switch kind {
	case api.IData:
		it.Index, it.Total, it.Body = 1, 3, []byte("hi")
	case api.IOrder:
		it.Index, it.L = 1, []int{0, 63, 2}
	case api.IFlush:
		it.Index = 1
	case api.IAck:
		it.Count = 7
	case api.IInstall:
		it.L = []int{3, 4}
	}
	return it
}

// came is what came: items of these numbers wait, of all kinds in turn.
func came(next int, seqs ...int) api.Win {
	w := api.Win{Next: next}
	for i, seq := range seqs {
		w.L = append(w.L, plain(1+i%6, seq))
	}
	return w
}

// row are so many numbers from one on, each by a step above the one ahead.
func row(from, many, step int) []int {
	var l []int
	for i := range many {
		l = append(l, from+i*step)
	}
	return l
}

// seqs are the numbers of the items that wait.
func seqs(w api.Win) []int {
	var l []int
	for _, it := range w.L {
		l = append(l, it.Seq)
	}
	return l
}

// told is what came as a text: another way than Same to hold two against each other.
func told(w api.Win) string {
	var s strings.Builder
	fmt.Fprintf(&s, "next %d, %d:", w.Next, len(w.L))
	for _, it := range w.L {
		s.WriteString(" " + toldItem(it))
	}
	return s.String()
}

// toldItem is an item as a text.
func toldItem(it api.Item) string {
	return fmt.Sprintf("(%d %d %d %d %d %d %v %x)", it.Kind, it.Seq, it.Epoch, it.Index, it.Total, it.Count, it.L, it.Body)
}

// nothing is no item, as a text.
var nothing = toldItem(api.Item{})

// copied is what came with memory of its own.
func copied(w api.Win) api.Win {
	w.L = slices.Clone(w.L)
	for i := range w.L {
		w.L[i].L, w.L[i].Body = slices.Clone(w.L[i].L), bytes.Clone(w.L[i].Body)
	}
	return w
}

// turned is what came, turned; what it was of stays as it is.
func turned(w api.Win, turn func(w *api.Win)) api.Win {
	w = copied(w)
	turn(&w)
	return w
}

// good is what came right: with no gaps, with small ones and great ones, at the first numbers and at the last ones.
func good() []api.Win {
	l := []api.Win{{Next: 1}, {Next: 1, L: []api.Item{}}, {Next: 2}, {Next: 1000}, {Next: far - 1}, {Next: far}, {Next: far + 1}}
	for _, many := range []int{1, 2, 5, 63, 64} {
		for _, next := range []int{1, 2, 1000} {
			for _, from := range []int{next, next + 1, next + 100} {
				l = append(l, came(next, row(from, many, 1)...), came(next, row(from, many, 3)...))
			}
			l = append(l, came(next, row(far-many+1, many, 1)...))
		}
		l = append(l, came(far-many+1, row(far-many+1, many, 1)...), came(far-200, row(far-many+1, many, 1)...))
	}
	return append(l, came(1, 1, far), came(far, far), came(far-1, far), came(3, 4, 5, 9, 10, 1000, far))
}

// unfit are items that may not be, though their number may.
func unfit(seq int) []api.Item {
	return []api.Item{
		{Seq: seq},
		{Kind: 7, Seq: seq},
		{Kind: -1, Seq: seq},
		{Kind: math.MaxInt, Seq: seq},
		{Kind: api.IToken, Seq: seq, Epoch: -1},
		{Kind: api.IToken, Seq: seq, Epoch: far + 1},
		{Kind: api.IToken, Seq: seq, Body: []byte{1}},
		{Kind: api.IToken, Seq: seq, Count: 1},
		{Kind: api.IData, Seq: seq},
		{Kind: api.IData, Seq: seq, Total: 33},
		{Kind: api.IData, Seq: seq, Total: 3, Index: 3},
		{Kind: api.IData, Seq: seq, Total: 1, Body: make([]byte, 1025)},
		{Kind: api.IOrder, Seq: seq},
		{Kind: api.IOrder, Seq: seq, L: []int{64}},
		{Kind: api.IFlush, Seq: seq, Index: 2},
		{Kind: api.IAck, Seq: seq, Count: -1},
		{Kind: api.IInstall, Seq: seq, L: []int{1}},
	}
}

// P9.1: at the beginning number 1 is the next one, and nothing waits.
func TestNew(t *testing.T) {
	if w := New(); w.Next != 1 || len(w.L) != 0 || !Right(w) {
		t.Error(told(w))
	}
}

// P9.1: what came is right: with none to 64 items, of all kinds, with gaps and without, up to the last number.
func TestRight(t *testing.T) {
	for _, w := range good() {
		if !Right(w) {
			t.Error(told(w))
		}
	}
	whole := came(7, 7, 13)
	whole.L[0].Body = make([]byte, 1024)
	if !Right(whole) {
		t.Error("a piece of 1024 bytes")
	}
}

// P9.1: Next is from 1 to Far and 1, whatever waits.
func TestRightNext(t *testing.T) {
	for _, next := range []int{0, -1, -2, -64, -far, math.MinInt, math.MinInt + 1, far + 2, far + 3, far + 64, math.MaxInt - 1, math.MaxInt} {
		for _, l := range [][]int{nil, {1}, {far}, {1, far}, row(5, 64, 1), {next}, {next + 1}, {max(next, next+1)}} {
			if w := came(next, l...); Right(w) {
				t.Error(told(w))
			}
		}
	}
	for _, seq := range []int{far, far + 1, far + 2, math.MaxInt, 1, math.MinInt} {
		if w := came(far+1, seq); Right(w) {
			t.Error(told(w))
		}
	}
}

// P9.1: no more than 64 items.
func TestRightMany(t *testing.T) {
	for _, many := range []int{65, 66, 100, 128, 256 + 3} {
		for _, from := range []int{1, 2, 1000, far - 1000} {
			if Right(came(from, row(from, many, 1)...)) || Right(came(1, row(from, many, 2)...)) {
				t.Errorf("%d items from %d on", many, from)
			}
		}
	}
}

// P9.1: an item that may not be isn't right, wherever it stands.
func TestRightItems(t *testing.T) {
	for _, many := range []int{1, 2, 5, 64} {
		for _, from := range []int{1, 4, 1000} {
			for at := range many {
				for _, it := range unfit(from + 2*at) {
					w := came(from, row(from, many, 2)...)
					w.L[at] = it
					if Right(w) {
						t.Errorf("item %d of %d: %s", at, many, toldItem(it))
					}
				}
			}
		}
	}
	for _, seq := range []int{far + 1, far + 2, math.MaxInt} {
		if Right(came(1, seq)) || Right(came(far, seq)) || Right(came(1, 2, seq)) || Right(came(1, seq, seq+1)) {
			t.Errorf("an item of number %d", seq)
		}
	}
}

// P9.1: numbers rise, and aren't below Next.
func TestRightNumbers(t *testing.T) {
	for _, x := range []struct {
		next int
		l    []int
		want bool
	}{
		{5, []int{5}, true}, {5, []int{4}, false}, {5, []int{6}, true}, {5, []int{1}, false}, {5, []int{0}, false}, {5, []int{-5}, false}, {5, []int{math.MinInt}, false},
		{5, []int{5, 6, 7}, true}, {5, []int{4, 5, 6}, false}, {5, []int{4, 6, 7}, false}, {5, []int{6, 8, 900}, true},
		{5, []int{5, 5}, false}, {5, []int{7, 7}, false}, {5, []int{7, 6}, false}, {5, []int{6, 5}, false},
		{5, []int{5, 6, 6}, false}, {5, []int{5, 5, 6}, false}, {5, []int{5, 7, 6}, false}, {5, []int{6, 5, 7}, false}, {5, []int{5, 9, 4}, false}, {5, []int{5, 9, 5}, false},
		{1, []int{1}, true}, {1, []int{0}, false}, {1, []int{-1}, false}, {1, []int{0, 1}, false},
		{far, []int{far}, true}, {far, []int{far - 1}, false}, {far, []int{far, far}, false}, {far, []int{far - 1, far}, false}, {far - 1, []int{far - 1, far}, true},
		{1, []int{far, 1}, false}, {1, []int{far, far}, false}, {1, []int{1, far}, true}, {5, []int{9, 9 - 1<<32}, false}, {5, []int{9, 8 + 1<<32}, true},
	} {
		if w := came(x.next, x.l...); Right(w) != x.want {
			t.Errorf("%s: %t", told(w), !x.want)
		}
	}
	for many := 2; many <= 64; many++ {
		for at := 1; at < many; at++ {
			for _, less := range []int{0, 1, at, at + 1} {
				w := came(1, row(1, many, 1)...)
				w.L[at].Seq = w.L[at-1].Seq - less
				if Right(w) {
					t.Errorf("item %d of %d: %v", at, many, seqs(w))
				}
			}
		}
	}
}

// P9.1: what came is the same just if all of it is, right or not.
func TestSame(t *testing.T) {
	l := append(good(), api.Win{}, api.Win{Next: -1}, api.Win{Next: math.MaxInt}, api.Win{Next: math.MinInt}, came(9, 3), came(5, 7, 6), came(1, row(1, 65, 1)...), api.Win{Next: 1, L: unfit(1)})
	texts := make([]string, len(l))
	for i, w := range l {
		texts[i] = told(w)
	}
	for i, w := range l {
		if !Same(w, w) || !Same(w, copied(w)) || !Same(copied(w), w) {
			t.Errorf("%s isn't the same as itself", texts[i])
		}
		for j, x := range l {
			if got, want := Same(w, x), texts[i] == texts[j]; got != want {
				t.Errorf("%s and %s: %t", texts[i], texts[j], got)
			}
		}
	}
}

// P9.1: what differs in one thing alone is not the same.
func TestSameButForOne(t *testing.T) {
	base := came(20, 20, 21, 25, 30, 31, 99)
	different := func(name string, turn func(w *api.Win)) {
		t.Helper()
		x := turned(base, turn)
		if Same(base, x) || Same(x, base) {
			t.Errorf("%s: %s and %s are the same", name, told(base), told(x))
		}
	}
	different("next one more", func(w *api.Win) { w.Next++ })
	different("next one less", func(w *api.Win) { w.Next-- })
	different("next far on", func(w *api.Win) { w.Next += 1 << 32 })
	different("one item more", func(w *api.Win) { w.L = append(w.L, plain(3, 100)) })
	different("an empty one", func(w *api.Win) { w.L = append(w.L, api.Item{}) })
	different("none", func(w *api.Win) { w.L = nil })
	different("without the last", func(w *api.Win) { w.L = w.L[:5] })
	different("without the first", func(w *api.Win) { w.L = w.L[1:] })
	different("two turned about", func(w *api.Win) { w.L[2], w.L[3] = w.L[3], w.L[2] })
	for at := range base.L {
		for name, turn := range map[string]func(it *api.Item){
			"kind":          func(it *api.Item) { it.Kind++ },
			"number":        func(it *api.Item) { it.Seq++ },
			"epoch":         func(it *api.Item) { it.Epoch++ },
			"index":         func(it *api.Item) { it.Index++ },
			"total":         func(it *api.Item) { it.Total++ },
			"count":         func(it *api.Item) { it.Count++ },
			"a member more": func(it *api.Item) { it.L = append(it.L, 0) },
			"a byte more":   func(it *api.Item) { it.Body = append(it.Body, 0) },
		} {
			different(name, func(w *api.Win) { turn(&w.L[at]) })
		}
		for i := range base.L[at].L {
			different("one of its list", func(w *api.Win) { w.L[at].L[i]++ })
		}
		for i := range base.L[at].Body {
			different("one of its bytes", func(w *api.Win) { w.L[at].Body[i] ^= 0x80 })
		}
	}
}

// P9.1: no elements are no elements.
func TestSameOfEmpty(t *testing.T) {
	lists := [][]api.Item{nil, {}, make([]api.Item, 0, 3)}
	for _, a := range lists {
		for _, b := range lists {
			if !Same(api.Win{Next: 4, L: a}, api.Win{Next: 4, L: b}) {
				t.Errorf("%#v and %#v", a, b)
			}
			if Same(api.Win{Next: 4, L: a}, api.Win{Next: 5, L: b}) {
				t.Errorf("%#v and %#v, but for next", a, b)
			}
		}
	}
	a := api.Win{Next: 2, L: []api.Item{{Kind: api.IToken, Seq: 3}}}
	b := api.Win{Next: 2, L: []api.Item{{Kind: api.IToken, Seq: 3, L: []int{}, Body: []byte{}}}}
	if !Same(a, b) || !Same(b, a) || !Right(b) {
		t.Error("an item's empty lists")
	}
}

// taken: an item is taken in, and all wait in order.
func taken(t *testing.T, w api.Win, it api.Item, last int) api.Win {
	t.Helper()
	all := copied(w)
	all.L = append(all.L, it)
	slices.SortFunc(all.L, func(a, b api.Item) int { return a.Seq - b.Seq })
	x, ok := Put(w, it, last)
	if !ok || told(x) != told(all) || !Right(x) {
		t.Errorf("%s and %s, last %d: %s, %t", told(w), toldItem(it), last, told(x), ok)
	}
	return x
}

// refused: an item isn't taken in, and what came is told as it was.
func refused(t *testing.T, w api.Win, it api.Item, last int) {
	t.Helper()
	was := told(w)
	if x, ok := Put(w, it, last); ok || told(x) != was {
		t.Errorf("%s and %s, last %d: %s, %t", was, toldItem(it), last, told(x), ok)
	}
}

// lasts are last numbers up to which an item of that number is taken in; ahead of them, such up to which it isn't.
func lasts(seq int) ([]int, []int) {
	return []int{seq - 1, seq - 2, 0, -1, -seq, -far, math.MinInt, math.MinInt + 1}, []int{seq, seq + 1, seq + 1<<32, far + 2, math.MaxInt - 1, math.MaxInt}
}

// P9.2: an item waits in its place: ahead of all, between two, behind all, or alone.
func TestPut(t *testing.T) {
	for _, w := range good() {
		if len(w.L) == 64 {
			continue
		}
		waits := map[int]bool{}
		tries := []int{w.Next, w.Next + 1, w.Next + 50, far - 1, far}
		for _, it := range w.L {
			waits[it.Seq] = true
			tries = append(tries, it.Seq-1, it.Seq+1)
		}
		for i, seq := range tries {
			if seq < w.Next || seq > far || waits[seq] {
				continue
			}
			below, fit := lasts(seq)
			for _, last := range below {
				refused(t, w, plain(1+i%6, seq), last)
			}
			for _, last := range fit {
				taken(t, w, plain(1+i%6, seq), last)
			}
		}
	}
}

// P9.2: where an item is laid, of each kind, with the numbers told one by one.
func TestPutPlace(t *testing.T) {
	for _, x := range []struct {
		seq  int
		want []int
	}{{5, []int{5, 7, 9, 20}}, {6, []int{6, 7, 9, 20}}, {8, []int{7, 8, 9, 20}}, {10, []int{7, 9, 10, 20}}, {19, []int{7, 9, 19, 20}}, {21, []int{7, 9, 20, 21}}, {far, []int{7, 9, 20, far}}} {
		for kind := api.IData; kind <= api.IInstall; kind++ {
			w := taken(t, came(5, 7, 9, 20), plain(kind, x.seq), far)
			if w.Next != 5 || !slices.Equal(seqs(w), x.want) {
				t.Errorf("number %d: %s", x.seq, told(w))
			}
			if at := slices.Index(x.want, x.seq); toldItem(w.L[at]) != toldItem(plain(kind, x.seq)) {
				t.Errorf("number %d: %s", x.seq, told(w))
			}
			taken(t, api.Win{Next: 5}, plain(kind, x.seq), x.seq)
		}
	}
	whole := plain(api.IData, 8)
	whole.Body = bytes.Repeat([]byte{7}, 1024)
	taken(t, came(5, 7, 9), whole, 8)
	taken(t, came(5, 7, 9), api.Item{Kind: api.IToken, Seq: 8, L: []int{}, Body: []byte{}}, 8)
	taken(t, came(5, 7, 9), api.Item{Kind: api.IData, Seq: 8, Total: 1}, 8)
}

// P9.2: an item whose number is below Next is late, whatever the last one is.
func TestPutLate(t *testing.T) {
	for _, w := range good() {
		for _, seq := range []int{w.Next - 1, w.Next - 2, w.Next - 64, 1 - w.Next, 0, -1, -far, math.MinInt} {
			if seq >= w.Next {
				continue
			}
			for _, last := range []int{seq - 1, seq, seq + 1, w.Next, far, far + 1, math.MaxInt, math.MinInt, 0, -1} {
				refused(t, w, plain(api.IToken, seq), last)
			}
		}
	}
	// The last number is read: nothing is left that may come.
	for _, seq := range []int{far, far + 1, far + 2, 1, math.MaxInt} {
		refused(t, api.Win{Next: far + 1}, plain(api.IToken, seq), math.MaxInt)
	}
}

// P9.2: an item that may not be is refused.
func TestPutUnfit(t *testing.T) {
	for _, w := range []api.Win{{Next: 1}, {Next: 5}, came(5, 5, 7), came(1, 6), came(far-8, far-6), {Next: far}} {
		for _, seq := range []int{w.Next, w.Next + 1, far} {
			for _, it := range unfit(seq) {
				for _, last := range []int{seq, far, math.MaxInt, math.MinInt} {
					refused(t, w, it, last)
				}
			}
		}
		for _, seq := range []int{far + 1, far + 2, math.MaxInt} {
			for _, last := range []int{seq, far, math.MaxInt} {
				refused(t, w, plain(api.IData, seq), last)
			}
		}
	}
}

// P9.2: an item whose number waits already is refused, be it the same one or another.
func TestPutAgain(t *testing.T) {
	for _, w := range good() {
		for _, it := range w.L {
			refused(t, w, it, far)
			refused(t, w, it, it.Seq)
			other := plain(1+it.Kind%6, it.Seq)
			refused(t, w, other, math.MaxInt)
			other = it
			other.Epoch++
			refused(t, w, other, math.MaxInt)
		}
	}
}

// P9.2: with 64 items that wait no further one is taken in, not even the next one; with one less it is.
func TestPutFull(t *testing.T) {
	for _, full := range []api.Win{came(5, row(6, 64, 2)...), came(5, row(7, 64, 1)...), came(5, row(5, 64, 2)...), came(5, row(5, 64, 1)...)} {
		for seq := 5; seq < 140; seq++ {
			refused(t, full, plain(api.IToken, seq), far)
		}
		refused(t, full, plain(api.IToken, far), far)
		for at := range full.L {
			less := turned(full, func(w *api.Win) { w.L = slices.Delete(w.L, at, at+1) })
			all := taken(t, less, full.L[at], far)
			refused(t, all, plain(api.IToken, 300), far)
			taken(t, less, plain(api.IToken, 300), 300)
		}
	}
}

// takes: the next item is told, and taken: what is left are the others, and Next is one more.
func takes(t *testing.T, w api.Win) api.Win {
	t.Helper()
	want, left := toldItem(w.L[0]), copied(w)
	left.L, left.Next = left.L[1:], left.Next+1
	if it, ok := Peek(w); !ok || toldItem(it) != want {
		t.Errorf("%s: peek: %s, %t", told(w), toldItem(it), ok)
	}
	it, x, ok := Take(w)
	if !ok || toldItem(it) != want || told(x) != told(left) || !Right(x) {
		t.Errorf("%s: take: %s, %s, %t", told(w), toldItem(it), told(x), ok)
	}
	return x
}

// none: the next item doesn't wait, and nothing is told, or taken.
func none(t *testing.T, w api.Win) {
	t.Helper()
	was := told(w)
	if it, ok := Peek(w); ok || toldItem(it) != nothing || it.L != nil || it.Body != nil {
		t.Errorf("%s: peek: %s, %t", was, toldItem(it), ok)
	}
	if it, x, ok := Take(w); ok || toldItem(it) != nothing || it.L != nil || it.Body != nil || told(x) != was {
		t.Errorf("%s: take: %s, %s, %t", was, toldItem(it), told(x), ok)
	}
}

// P9.3: items are taken one by one, as long as the next one waits.
func TestPeekTake(t *testing.T) {
	for _, w := range good() {
		for len(w.L) > 0 && w.L[0].Seq == w.Next {
			w = takes(t, w)
		}
		none(t, w)
	}
}

// P9.3: the next item waits, of each kind; only later ones do; none does.
func TestPeekTakeEdges(t *testing.T) {
	for kind := api.IData; kind <= api.IInstall; kind++ {
		for _, next := range []int{1, 2, 5, 1000, far - 70, far} {
			w := api.Win{Next: next, L: []api.Item{plain(kind, next)}}
			none(t, takes(t, w))
			if next < far {
				w.L = append(w.L, plain(kind, next+2))
				none(t, takes(t, w))
				w.L = w.L[1:]
				none(t, w)
			}
			none(t, api.Win{Next: next})
		}
	}
	none(t, New())
	none(t, api.Win{Next: far + 1})
	none(t, came(1, far))
	none(t, came(5, row(6, 64, 1)...))
	if x := takes(t, came(far, far)); x.Next != far+1 {
		t.Error(told(x))
	}
}

// gap: the first number that is missing up to a top, and how many are.
func gap(t *testing.T, w api.Win, top, first, many int) {
	t.Helper()
	if lo, n := Gap(w, top); lo != first || n != many {
		t.Errorf("next %d, %v, top %d: %d, %d, want %d, %d", w.Next, seqs(w), top, lo, n, first, many)
	}
}

// P9.4: no number, one, several, and more than 64 are missing.
func TestGap(t *testing.T) {
	for _, x := range []struct {
		next int
		l    []int
		top  int
		lo   int
		n    int
	}{
		{5, nil, 4, 0, 0}, {5, nil, 5, 5, 1}, {5, nil, 6, 5, 2}, {5, nil, 67, 5, 63}, {5, nil, 68, 5, 64}, {5, nil, 69, 5, 64}, {5, nil, 1000, 5, 64},
		{5, nil, 0, 0, 0}, {5, nil, -1, 0, 0}, {5, nil, -5, 0, 0}, {5, nil, math.MinInt, 0, 0}, {5, nil, math.MinInt + 4, 0, 0}, {5, nil, far, 5, 64}, {5, nil, far + 1, 5, 64}, {5, nil, math.MaxInt, 5, 64},
		{1, nil, 0, 0, 0}, {1, nil, 1, 1, 1}, {1, nil, 64, 1, 64}, {1, nil, 65, 1, 64}, {1, nil, 500, 1, 64}, {1, nil, math.MinInt, 0, 0}, {1, nil, math.MaxInt, 1, 64},
		// behind what waits from Next on
		{5, []int{5}, 4, 0, 0}, {5, []int{5}, 5, 0, 0}, {5, []int{5}, 6, 6, 1}, {5, []int{5}, 9, 6, 4}, {5, []int{5, 6, 7}, 7, 0, 0}, {5, []int{5, 6, 7}, 8, 8, 1}, {5, []int{5, 6, 7}, 71, 8, 64}, {5, []int{5, 6, 7}, 72, 8, 64}, {5, []int{5, 6, 7}, 6, 0, 0}, {5, []int{5, 6, 7}, math.MaxInt, 8, 64}, {5, []int{5, 6, 7}, math.MinInt, 0, 0},
		// at Next, ahead of what waits
		{5, []int{6}, 4, 0, 0}, {5, []int{6}, 5, 5, 1}, {5, []int{6}, 6, 5, 1}, {5, []int{6}, 7, 5, 1}, {5, []int{6}, math.MaxInt, 5, 1}, {5, []int{9}, 5, 5, 1}, {5, []int{9}, 6, 5, 2}, {5, []int{9}, 8, 5, 4}, {5, []int{9}, 9, 5, 4}, {5, []int{9}, 99, 5, 4}, {5, []int{68}, 99, 5, 63}, {5, []int{69}, 99, 5, 64}, {5, []int{70}, 99, 5, 64}, {5, []int{1000}, 999, 5, 64}, {5, []int{far}, far, 5, 64},
		// between two that wait
		{5, []int{5, 7}, 5, 0, 0}, {5, []int{5, 7}, 6, 6, 1}, {5, []int{5, 7}, 7, 6, 1}, {5, []int{5, 7}, 99, 6, 1}, {5, []int{5, 6, 10, 20}, 6, 0, 0}, {5, []int{5, 6, 10, 20}, 7, 7, 1}, {5, []int{5, 6, 10, 20}, 8, 7, 2}, {5, []int{5, 6, 10, 20}, 9, 7, 3}, {5, []int{5, 6, 10, 20}, 10, 7, 3}, {5, []int{5, 6, 10, 20}, 19, 7, 3}, {5, []int{5, 6, 10, 20}, 99, 7, 3}, {5, []int{5, 6, 10, 20}, 4, 0, 0}, {5, []int{5, 200}, 300, 6, 64}, {5, []int{5, 70}, 300, 6, 64}, {5, []int{5, 69}, 300, 6, 63},
		// the last numbers
		{far, nil, far - 1, 0, 0}, {far, nil, far, far, 1}, {far, nil, far + 1, far, 1}, {far, nil, math.MaxInt, far, 1}, {far, nil, math.MinInt, 0, 0}, {far, []int{far}, far, 0, 0}, {far, []int{far}, math.MaxInt, 0, 0},
		{far - 1, nil, far, far - 1, 2}, {far - 1, nil, math.MaxInt, far - 1, 2}, {far - 1, []int{far}, math.MaxInt, far - 1, 1}, {far - 1, []int{far - 1}, math.MaxInt, far, 1}, {far - 1, []int{far - 1, far}, math.MaxInt, 0, 0}, {far - 62, nil, math.MaxInt, far - 62, 63}, {far - 63, nil, math.MaxInt, far - 63, 64}, {far - 64, nil, math.MaxInt, far - 64, 64},
		{far + 1, nil, far, 0, 0}, {far + 1, nil, far + 1, 0, 0}, {far + 1, nil, far + 2, 0, 0}, {far + 1, nil, math.MaxInt, 0, 0}, {far + 1, nil, math.MinInt, 0, 0}, {far + 1, nil, 0, 0, 0},
	} {
		gap(t, came(x.next, x.l...), x.top, x.lo, x.n)
	}
	full := row(5, 64, 1)
	gap(t, came(5, full...), 68, 0, 0)
	gap(t, came(5, full...), 69, 69, 1)
	gap(t, came(5, full...), math.MaxInt, 69, 64)
	gap(t, came(far-63, row(far-63, 64, 1)...), math.MaxInt, 0, 0)
}

// missing is what Gap tells, by going through the numbers one by one.
func missing(w api.Win, top int) (int, int) {
	waits := map[int]bool{}
	for _, it := range w.L {
		waits[it.Seq] = true
	}
	first := w.Next
	for first <= min(top, far) && waits[first] {
		first++
	}
	many := 0
	for many < 64 && first+many <= min(top, far) && !waits[first+many] {
		many++
	}
	if many == 0 {
		return 0, 0
	}
	return first, many
}

// P9.4: the gaps of all that came right, at tops near all numbers that wait.
func TestGapOfAll(t *testing.T) {
	for _, w := range good() {
		tops := []int{math.MinInt, math.MinInt + 1, -far, -1, 0, far - 1, far, far + 1, far + 2, math.MaxInt - 1, math.MaxInt}
		for _, base := range append(seqs(w), w.Next, w.Next+64) {
			for d := -3; d <= 3; d++ {
				tops = append(tops, base+d)
			}
		}
		was := told(w)
		for _, top := range tops {
			lo, n := missing(w, top)
			gap(t, w, top, lo, n)
		}
		if told(w) != was {
			t.Errorf("%s: %s", was, told(w))
		}
	}
}

// P9.4, P9.5: the example: items 2 and 1 come; up to 3 number 3 is missing, and 1 and 2 are taken.
func TestTwoTurnedAbout(t *testing.T) {
	w := New()
	gap(t, w, 3, 1, 3)
	w = taken(t, w, plain(api.IToken, 2), 10)
	gap(t, w, 3, 1, 1)
	none(t, w)
	w = taken(t, w, plain(api.IToken, 1), 10)
	gap(t, w, 3, 3, 1)
	w = takes(t, takes(t, w))
	none(t, w)
	if told(w) != told(api.Win{Next: 3}) {
		t.Error(told(w))
	}
}

// random are numbers that look like chance, and are the same at each run.
type random uint64

// below is the next number, from 0 to one less than n.
func (r *random) below(n int) int {
	*r = *r*6364136223846793005 + 1442695040888963407
	return int(uint64(*r)>>33) % n
}

// P9.5: in whatever order, and however often, items come: they are taken in order, each once, as they came first; and what came stays right.
func TestManyTurns(t *testing.T) {
	for seed := range 60 {
		r := random(seed)
		w := New()
		if seed%4 == 3 {
			w.Next = far - 100
		}
		firsts, next := map[int]string{}, w.Next
		for range 400 {
			if r.below(3) == 0 {
				next = stepTake(t, &w, firsts, next)
			} else {
				stepPut(t, &w, firsts, next, &r)
			}
			if !Right(w) || w.Next != next {
				t.Fatalf("seed %d: %s, next %d", seed, told(w), next)
			}
			top := next + r.below(80) - 10
			lo, n := missing(w, top)
			gap(t, w, top, lo, n)
		}
	}
}

// stepPut: an item comes, of a number somewhere about the next one; it is taken in just if it is the first one of its number, there is room, and it may be.
func stepPut(t *testing.T, w *api.Win, firsts map[int]string, next int, r *random) {
	t.Helper()
	it, last := plain(1+r.below(6), next-3+r.below(ahead(r))), next+r.below(80)
	it.Epoch = r.below(1000) - 20
	waits := 0
	for seq := range firsts {
		if seq >= next {
			waits++
		}
	}
	want := it.Epoch >= 0 && it.Seq >= next && it.Seq <= last && it.Seq <= far && firsts[it.Seq] == "" && waits < 64
	x, ok := Put(*w, it, last)
	if ok != want {
		t.Fatalf("%s and %s, last %d: %t", told(*w), toldItem(it), last, ok)
	}
	if ok {
		firsts[it.Seq] = toldItem(it)
	}
	*w = x
}

// ahead is how far ahead an item may come: near by, or behind all that there is room for.
func ahead(r *random) int {
	return []int{7, 23, 123}[r.below(3)]
}

// stepTake: the next item is taken just if it came.
func stepTake(t *testing.T, w *api.Win, firsts map[int]string, next int) int {
	t.Helper()
	seen, sees := Peek(*w)
	it, x, ok := Take(*w)
	want := firsts[next]
	if ok != (want != "") || ok && toldItem(it) != want || sees != ok || toldItem(seen) != toldItem(it) {
		t.Fatalf("%s: %s, %t, want %s", told(*w), toldItem(it), ok, want)
	}
	*w = x
	if ok {
		next++
	}
	return next
}

// P9.5: each order in which five items come, each of them twice: 1 to 5 are taken, as they came first.
func TestEachOrder(t *testing.T) {
	var each func(l, left []int)
	each = func(l, left []int) {
		if len(left) == 0 {
			inOrder(t, l)
		}
		for i, seq := range left {
			each(append(slices.Clone(l), seq), slices.Delete(slices.Clone(left), i, i+1))
		}
	}
	each(nil, row(1, 5, 1))
}

// inOrder: items come in an order, then all others of their numbers.
func inOrder(t *testing.T, l []int) {
	t.Helper()
	w := New()
	for _, seq := range l {
		w = taken(t, w, plain(1+seq%6, seq), 5)
	}
	for _, seq := range l {
		refused(t, w, plain(1+(seq+1)%6, seq), 5)
	}
	for seq := 1; seq <= 5; seq++ {
		if it, _ := Peek(w); toldItem(it) != toldItem(plain(1+seq%6, seq)) {
			t.Errorf("%v: %s", l, told(w))
		}
		w = takes(t, w)
		refused(t, w, plain(1+seq%6, seq), 5)
	}
	none(t, w)
}

// roomyItem is an item whose lists have values behind their end.
func roomyItem(it api.Item) api.Item {
	it.L = append(slices.Clone(it.L), 71, 72, 73)[:len(it.L)]
	it.Body = append(bytes.Clone(it.Body), "behind"...)[:len(it.Body)]
	return it
}

// roomy is what came, with values behind the ends of all lists.
func roomy(w api.Win) api.Win {
	many := len(w.L)
	l := make([]api.Item, 0, many+3)
	for _, it := range w.L {
		l = append(l, roomyItem(it))
	}
	for i := range 3 {
		l = append(l, roomyItem(plain(api.IOrder, 900+i)))
	}
	w.L = l[:many]
	return w
}

// deepItem is an item as a text, with what is behind the ends of its lists.
func deepItem(it api.Item) string {
	many := fmt.Sprint(len(it.L), len(it.Body))
	it.L, it.Body = it.L[:cap(it.L)], it.Body[:cap(it.Body)]
	return many + toldItem(it)
}

// deep is what came as a text, with what is behind the ends of its lists.
func deep(w api.Win) string {
	s := fmt.Sprint(w.Next, len(w.L))
	for _, it := range w.L[:cap(w.L)] {
		s += deepItem(it)
	}
	return s
}

// spoil writes over all of an item's lists, up to the end of their room.
func spoil(it *api.Item) {
	for i := range it.L[:cap(it.L)] {
		it.L[:cap(it.L)][i] = -7
	}
	for i := range it.Body[:cap(it.Body)] {
		it.Body[:cap(it.Body)][i] = 0xee
	}
}

// spoilAll writes over all of what came, up to the end of its room.
func spoilAll(w api.Win) {
	l := w.L[:cap(w.L)]
	for i := range l {
		spoil(&l[i])
		l[i] = api.Item{Kind: -7}
	}
}

// answer is what a call answers.
type answer struct {
	ws  []api.Win
	its []api.Item
}

// told is an answer as a text.
func (a answer) told() string {
	s := ""
	for _, w := range a.ws {
		s += told(w)
	}
	for _, it := range a.its {
		s += toldItem(it)
	}
	return s
}

// spoil writes over all of an answer.
func (a answer) spoil() {
	for _, w := range a.ws {
		spoilAll(w)
	}
	for i := range a.its {
		spoil(&a.its[i])
	}
}

// calls are all calls, with what came and one item.
func calls(w api.Win, it api.Item) map[string]func() answer {
	put := func(seq, last int) func() answer {
		return func() answer {
			it := it
			it.Seq = seq
			x, _ := Put(w, it, last)
			return answer{ws: []api.Win{x}}
		}
	}
	return map[string]func() answer{
		"put at next":    put(w.Next, far),
		"put at next 1":  put(w.Next+1, far),
		"put at next 2":  put(w.Next+2, far),
		"put behind all": put(w.Next+500, far),
		"put too late":   put(w.Next-1, far),
		"put too far":    put(w.Next+500, w.Next),
		"put unfit":      put(0, far),
		"peek": func() answer {
			it, _ := Peek(w)
			return answer{its: []api.Item{it}}
		},
		"take": func() answer {
			it, x, _ := Take(w)
			return answer{ws: []api.Win{x}, its: []api.Item{it}}
		},
		"none": func() answer {
			Right(w)
			Same(w, w)
			Gap(w, w.Next+600)
			return answer{}
		},
	}
}

// some is what came, for the calls: with the next item and without, with gaps and without, and full.
func some() []api.Win {
	return []api.Win{{Next: 20}, came(20, 20), came(20, 21), came(20, 20, 21, 22), came(20, 20, 22, 30), came(20, 23, 24, 25, 26, 27, 28), came(20, row(20, 12, 1)...), came(20, row(20, 64, 2)...)}
}

// R3: what is handed in is not written into, not even behind its end, and shares no memory with what is answered.
func TestArgumentsStay(t *testing.T) {
	for _, base := range some() {
		for kind := api.IData; kind <= api.IInstall; kind++ {
			w, it := roomy(base), roomyItem(plain(kind, 4))
			wasW, wasIt := deep(w), deepItem(it)
			for name, call := range calls(w, it) {
				a := call()
				if deep(w) != wasW || deepItem(it) != wasIt {
					t.Fatalf("%s wrote into its arguments", name)
				}
				a.spoil()
				if deep(w) != wasW || deepItem(it) != wasIt {
					t.Fatalf("%s: what is answered is what was handed in", name)
				}
			}
		}
	}
}

// R3: what was answered stays as it is, whatever is called later, and whatever becomes of what was handed in.
func TestAnswersStay(t *testing.T) {
	for _, base := range some() {
		for kind := api.IData; kind <= api.IInstall; kind++ {
			for name := range calls(base, plain(kind, 4)) {
				w, it := roomy(base), roomyItem(plain(kind, 4))
				a := calls(w, it)[name]()
				was := a.told()
				for _, later := range calls(w, plain(api.IOrder, 4)) {
					later()
				}
				if a.told() != was {
					t.Fatalf("%s: what was answered is turned by a later call of the same", name)
				}
				spoilAll(w)
				spoil(&it)
				if a.told() != was {
					t.Fatalf("%s: what was answered is turned with what was handed in", name)
				}
				for _, x := range a.ws {
					for _, later := range calls(x, plain(api.IOrder, 4)) {
						later().spoil()
					}
				}
				if a.told() != was {
					t.Fatalf("%s: what was answered is turned by a later call", name)
				}
			}
		}
	}
}

// R3: the item that is taken and what is left share no memory, not even where what was handed in did.
func TestTakenApart(t *testing.T) {
	for kind := api.IData; kind <= api.IInstall; kind++ {
		one := plain(kind, 20)
		two := one
		two.Seq = 21
		w := api.Win{Next: 20, L: []api.Item{one, two}}
		it, x, _ := Take(w)
		was := told(x)
		spoil(&it)
		if told(x) != was {
			t.Error("what is left is turned with the item")
		}
	}
}
