package item

import (
	"bytes"
	"encoding/binary"
	"math"
	"slices"
	"strings"
	"testing"

	"precentor/api"
)

const far = 1 << 62

// row is so many numbers, all alike.
func row(many, n int) []int {
	return slices.Repeat([]int{n}, many)
}

// but is a list with one of its places set anew.
func but(l []int, at, n int) []int {
	l = slices.Clone(l)
	l[at] = n
	return l
}

// plain is an ordinary item of a kind.
func plain(kind int) api.Item {
	it := api.Item{Kind: kind, Seq: 2, Epoch: 1}
	switch kind {
	case api.IData:
		it.Index, it.Total, it.Body = 1, 3, []byte("hi")
	case api.IOrder:
		it.Index, it.L = 1, []int{0, 63, 2}
	case api.IFlush:
		it.Index = 1
	case api.IAck:
		it.Count = 7
	case api.IInstall:
		it.L = []int{3, 4}
	}
	return it
}

// with is an ordinary item of a kind, turned.
func with(kind int, turn func(it *api.Item)) api.Item {
	it := plain(kind)
	turn(&it)
	return it
}

// data, order, flush, ack and install are items of these kinds with the parts that they name.
func data(index, total, long int) api.Item {
	return api.Item{Kind: api.IData, Seq: 2, Epoch: 1, Index: index, Total: total, Body: bytes.Repeat([]byte("b"), long)}
}

func order(index int, l []int) api.Item {
	return api.Item{Kind: api.IOrder, Seq: 2, Epoch: 1, Index: index, L: l}
}

func flush(index int) api.Item {
	return api.Item{Kind: api.IFlush, Seq: 2, Epoch: 1, Index: index}
}

func ack(count int) api.Item {
	return api.Item{Kind: api.IAck, Seq: 2, Epoch: 1, Count: count}
}

func install(l []int) api.Item {
	return api.Item{Kind: api.IInstall, Seq: 2, Epoch: 1, L: l}
}

// good are items that may be: ordinary ones, and those at the edges.
func good() []api.Item {
	var l []api.Item
	for kind := api.IData; kind <= api.IInstall; kind++ {
		l = append(l, plain(kind))
		for _, n := range []int{0, 1, 255, 256, far - 1, far} {
			l = append(l, with(kind, func(it *api.Item) { it.Epoch = n }))
			if n > 0 {
				l = append(l, with(kind, func(it *api.Item) { it.Seq = n }))
			}
		}
	}
	for total := 1; total <= 32; total++ {
		for index := range total {
			l = append(l, data(index, total, total+index))
		}
	}
	for _, long := range []int{0, 1, 2, 1023, 1024} {
		l = append(l, data(0, 1, long), data(31, 32, long))
	}
	for index := range 2 {
		l = append(l, flush(index))
		for _, many := range []int{1, 2, 3, 63, 64} {
			full := row(many, 63)
			l = append(l, order(index, row(many, 0)), order(index, row(many, 1)), order(index, full), order(index, but(full, 0, 0)), order(index, but(full, many-1, 5)))
		}
	}
	for _, n := range []int{0, 1, 255, 256, 65536, far - 1, far} {
		l = append(l, ack(n))
		for _, many := range []int{2, 3, 63, 64} {
			l = append(l, install(row(many, n)), install(but(row(many, 0), 0, n)), install(but(row(many, 9), many-1, n)))
		}
	}
	return l
}

// bad are items that may not be.
func bad() []api.Item {
	var l []api.Item
	for _, kind := range []int{math.MinInt, -1, 0, 7, 8, 255, 256, 257, 259, 1 << 32, 1<<32 + 3, far, math.MaxInt} {
		l = append(l, api.Item{Kind: kind, Seq: 2, Epoch: 1})
		for like := api.IData; like <= api.IInstall; like++ {
			l = append(l, with(like, func(it *api.Item) { it.Kind = kind }))
		}
	}
	below := []int{-1, -2, -255, -far, math.MinInt + 1, math.MinInt}
	above := []int{far + 1, far + 2, math.MaxInt - 1, math.MaxInt}
	for kind := api.IData; kind <= api.IInstall; kind++ {
		for _, n := range slices.Concat(below, above) {
			l = append(l, with(kind, func(it *api.Item) { it.Epoch = n }), with(kind, func(it *api.Item) { it.Seq = n }))
		}
		l = append(l, with(kind, func(it *api.Item) { it.Seq = 0 }))
		l = append(l, unnamed(kind)...)
	}
	for _, n := range slices.Concat(below, above, []int{0, 33, 34, 255, 256, 257}) {
		l = append(l, data(0, n, 1), data(n-1, n, 1))
	}
	for _, n := range slices.Concat(below, above, []int{3, 4, 31, 32, 256, 257}) {
		l = append(l, data(n, 3, 1))
	}
	l = append(l, data(1, 1, 1), data(32, 32, 1), data(0, 1, 1025), data(31, 32, 1025), data(0, 1, 2048))
	for _, n := range slices.Concat(below, above, []int{2, 3, 255, 256, 257}) {
		l = append(l, flush(n), order(n, []int{1}))
	}
	for _, n := range slices.Concat(below, above, []int{64, 65, 255, 256}) {
		l = append(l, order(0, []int{n}), order(1, but(row(64, 1), 0, n)), order(1, but(row(64, 1), 63, n)), order(0, []int{1, n, 2}))
	}
	for index := range 2 {
		l = append(l, order(index, nil), order(index, []int{}), order(index, row(65, 1)), order(index, row(128, 0)))
	}
	for _, n := range slices.Concat(below, above) {
		l = append(l, ack(n), install([]int{n, 1}), install([]int{1, n}), install(but(row(64, 1), 31, n)))
	}
	return append(l, install(nil), install([]int{}), install([]int{1}), install(row(65, 1)), install(row(128, 0)))
}

// unnamed are items with one thing set that their kind does not name.
func unnamed(kind int) []api.Item {
	var l []api.Item
	for _, n := range []int{math.MinInt, -1, 1, 2, 256, far, math.MaxInt} {
		if kind == api.IToken || kind == api.IAck || kind == api.IInstall {
			l = append(l, with(kind, func(it *api.Item) { it.Index = n }))
		}
		if kind != api.IData {
			l = append(l, with(kind, func(it *api.Item) { it.Total = n }))
		}
		if kind != api.IAck {
			l = append(l, with(kind, func(it *api.Item) { it.Count = n }))
		}
	}
	if kind != api.IOrder && kind != api.IInstall {
		l = append(l, with(kind, func(it *api.Item) { it.L = []int{0} }), with(kind, func(it *api.Item) { it.L = []int{1, 2} }))
	}
	if kind != api.IData {
		l = append(l, with(kind, func(it *api.Item) { it.Body = []byte{0} }), with(kind, func(it *api.Item) { it.Body = []byte("hi") }))
	}
	return l
}

// written is an item's bytes, by the library.
func written(it api.Item) []byte {
	eight := binary.BigEndian.AppendUint64
	b := eight(eight([]byte{byte(it.Kind)}, uint64(it.Seq)), uint64(it.Epoch))
	switch it.Kind {
	case api.IData:
		b = append(b, byte(it.Index), byte(it.Total))
	case api.IOrder, api.IFlush:
		b = append(b, byte(it.Index))
	case api.IAck:
		b = eight(b, uint64(it.Count))
	}
	for _, n := range it.L {
		if it.Kind == api.IOrder {
			b = append(b, byte(n))
		} else {
			b = eight(b, uint64(n))
		}
	}
	return append(b, it.Body...)
}

// clone is an item with memory of its own.
func clone(it api.Item) api.Item {
	it.L, it.Body = slices.Clone(it.L), bytes.Clone(it.Body)
	return it
}

// alike are items the same: a way of its own to ask.
func alike(a, b api.Item) bool {
	if len(a.L) != len(b.L) || string(a.Body) != string(b.Body) {
		return false
	}
	for i, n := range a.L {
		if b.L[i] != n {
			return false
		}
	}
	return [6]int{a.Kind, a.Seq, a.Epoch, a.Index, a.Total, a.Count} == [6]int{b.Kind, b.Seq, b.Epoch, b.Index, b.Total, b.Count}
}

// zero: is nothing set in an item?
func zero(it api.Item) bool { return alike(it, api.Item{}) }

// none asks that bytes are none of any item.
func none(t *testing.T, b []byte) {
	t.Helper()
	if it, code := Take(b); code != api.ErrForm || !zero(it) {
		t.Errorf("Take(%x) = %+v, %d, want nothing and ErrForm", b, it, code)
	}
}

// P3.1: items that may be, and such that may not; the latter have no bytes.
func TestMay(t *testing.T) {
	for _, it := range good() {
		if !May(it) {
			t.Errorf("May(%+v) = false", it)
		}
	}
	for _, it := range bad() {
		if May(it) {
			t.Errorf("May(%+v) = true", it)
		}
		if b := Bytes(it); len(b) != 0 {
			t.Errorf("Bytes(%+v) = %x, want none", it, b)
		}
	}
	if May(api.Item{}) || len(Bytes(api.Item{})) != 0 {
		t.Error("an item without a kind may be")
	}
}

// P3.1: a list without elements is none, be it nil or not.
func TestMayOfEmptyLists(t *testing.T) {
	for kind := api.IData; kind <= api.IInstall; kind++ {
		it := plain(kind)
		if it.L == nil {
			it.L = []int{}
		}
		if it.Body == nil {
			it.Body = []byte{}
		}
		if !May(it) || !bytes.Equal(Bytes(it), Bytes(plain(kind))) {
			t.Errorf("kind %d: empty lists are not as none", kind)
		}
	}
}

// P3.1: bytes that are known; those of the token are the document's example.
func TestBytesKnown(t *testing.T) {
	const head = "\x00\x00\x00\x00\x00\x00\x00\x02\x00\x00\x00\x00\x00\x00\x00\x01"
	const seven = "\x00\x00\x00\x00\x00\x00\x00"
	for kind, want := range map[int]string{
		api.IData:    "\x01" + head + "\x01\x03hi",
		api.IOrder:   "\x02" + head + "\x01\x00\x3f\x02",
		api.IToken:   "\x03" + head,
		api.IFlush:   "\x04" + head + "\x01",
		api.IAck:     "\x05" + head + seven + "\x07",
		api.IInstall: "\x06" + head + seven + "\x03" + seven + "\x04",
	} {
		if got := Bytes(plain(kind)); string(got) != want {
			t.Errorf("kind %d: %x, want %x", kind, got, want)
		}
		if it, code := Take([]byte(want)); code != api.OK || !alike(it, plain(kind)) {
			t.Errorf("kind %d: taken %+v, %d", kind, it, code)
		}
	}
	it := api.Item{Kind: api.IToken, Seq: far, Epoch: 0x0102030405060708}
	if got, want := Bytes(it), "\x03\x40"+seven+"\x01\x02\x03\x04\x05\x06\x07\x08"; string(got) != want {
		t.Errorf("%x, want %x", got, want)
	}
}

// P3.1, P3.2, P3.3: an item that may be is written as the table says, and is taken as it was written.
func TestThereAndBack(t *testing.T) {
	for _, it := range good() {
		b := Bytes(it)
		if want := written(it); !bytes.Equal(b, want) {
			t.Errorf("Bytes(%+v) = %x, want %x", it, b, want)
		}
		if got, code := Take(b); code != api.OK || !alike(got, it) || !Same(got, it) {
			t.Errorf("Take(%x) = %+v, %d, want %+v", b, got, code, it)
		}
	}
}

// P3.1: two items are the same if all of it is, whatever they are.
func TestSame(t *testing.T) {
	full := api.Item{Kind: 9, Seq: -1, Epoch: 3, Index: 4, Total: 5, Count: 6, L: []int{7, 8}, Body: []byte("xy")}
	for i, turn := range []func(it *api.Item){
		func(it *api.Item) { it.Kind = 8 },
		func(it *api.Item) { it.Seq = 1 },
		func(it *api.Item) { it.Epoch = -3 },
		func(it *api.Item) { it.Index = 0 },
		func(it *api.Item) { it.Total = math.MinInt },
		func(it *api.Item) { it.Count = math.MaxInt },
		func(it *api.Item) { it.L = nil },
		func(it *api.Item) { it.L = []int{} },
		func(it *api.Item) { it.L = []int{7} },
		func(it *api.Item) { it.L = []int{8, 7} },
		func(it *api.Item) { it.L = []int{7, 9} },
		func(it *api.Item) { it.L = []int{7, 8, 0} },
		func(it *api.Item) { it.Body = nil },
		func(it *api.Item) { it.Body = []byte{} },
		func(it *api.Item) { it.Body = []byte("x") },
		func(it *api.Item) { it.Body = []byte("yx") },
		func(it *api.Item) { it.Body = []byte("xz") },
		func(it *api.Item) { it.Body = []byte("xy\x00") },
		func(it *api.Item) { it.Index, it.Total = it.Total, it.Index },
	} {
		other := clone(full)
		if !Same(full, other) || !Same(other, full) {
			t.Fatalf("%+v isn't the same as its copy", full)
		}
		turn(&other)
		if Same(full, other) || Same(other, full) {
			t.Errorf("%d: %+v is the same as %+v", i, full, other)
		}
	}
}

// P3.1: no elements are no elements, be a list nil or empty.
func TestSameOfEmptyLists(t *testing.T) {
	lists := []api.Item{{}, {L: []int{}}, {Body: []byte{}}, {L: []int{}, Body: []byte{}}, {L: make([]int, 0, 4), Body: make([]byte, 0, 4)}}
	for _, a := range lists {
		for _, b := range lists {
			if !Same(a, b) {
				t.Errorf("%#v isn't the same as %#v", a, b)
			}
		}
		for _, b := range []api.Item{{L: []int{0}}, {Body: []byte{0}}} {
			if Same(a, b) || Same(b, a) {
				t.Errorf("%#v is the same as %#v", a, b)
			}
		}
	}
}

// P3.3: two that may be are written alike just if they are the same.
func TestWrittenAlike(t *testing.T) {
	l := good()
	for _, a := range l {
		b := Bytes(a)
		for _, other := range l {
			if same := alike(a, other); bytes.Equal(b, Bytes(other)) != same || Same(a, other) != same {
				t.Fatalf("%+v, %+v: the same %t, else otherwise", a, other, same)
			}
		}
	}
}

// P3.2: bytes that are none of any item, whatever they begin with.
func TestTakeNone(t *testing.T) {
	none(t, nil)
	none(t, []byte{})
	for kind := range 256 {
		for long := range 17 {
			none(t, bytes.Repeat([]byte{byte(kind)}, long))
		}
		if kind < api.IData || kind > api.IInstall {
			for _, tail := range []string{"", "\x00", "\x01", "\x00\x01", "\x00\x00\x00\x00\x00\x00\x00\x01", strings.Repeat("\x01", 16)} {
				none(t, append(written(api.Item{Kind: kind, Seq: 2, Epoch: 1}), tail...))
			}
		}
	}
	for kind := api.IData; kind <= api.IInstall; kind++ {
		b := written(plain(kind))
		for long := range 17 {
			none(t, b[:long])
		}
	}
}

// P3.2: bytes as of an item that may not be are none of any; a number that has no bytes is left out.
func TestTakeOutOfBounds(t *testing.T) {
	for _, it := range bad() {
		if holds(it) {
			none(t, written(it))
		}
	}
	for kind := api.IData; kind <= api.IInstall; kind++ {
		for _, at := range []int{1, 9} {
			for _, top := range []byte{0x40, 0x7f, 0x80, 0xc0, 0xff} {
				b := written(plain(kind))
				b[at] = top
				none(t, b)
			}
		}
	}
}

// holds: do an item's bytes tell all of it?
func holds(it api.Item) bool {
	kind := it.Kind
	if kind < 0 || kind > 255 || kind == api.IData && len(it.L) > 0 {
		return false
	}
	byteWide := it.Index >= 0 && it.Index <= 255 && it.Total >= 0 && it.Total <= 255
	if kind == api.IOrder {
		byteWide = byteWide && !slices.ContainsFunc(it.L, func(n int) bool { return n < 0 || n > 255 })
	}
	named := plain(kind)
	shape := func(x api.Item) [5]bool {
		return [5]bool{x.Index != 0, x.Total != 0, x.Count != 0, len(x.L) != 0, len(x.Body) != 0}
	}
	for i, set := range shape(it) {
		if set && !shape(named)[i] {
			return false
		}
	}
	return byteWide
}

// P3.3: of a kind with a fixed length, bytes less by one or more by one are none.
func TestFixedLengths(t *testing.T) {
	for kind, long := range map[int]int{api.IToken: 17, api.IFlush: 18, api.IAck: 25} {
		b := Bytes(plain(kind))
		if len(b) != long {
			t.Errorf("kind %d: %d bytes, want %d", kind, len(b), long)
		}
		for less := range long {
			none(t, b[:less])
		}
		for more := range 256 {
			none(t, append(bytes.Clone(b), byte(more)))
		}
		none(t, append(bytes.Clone(b), make([]byte, 8)...))
	}
}

// P3.2: data, orders and installs have bounds to their lengths.
func TestOtherLengths(t *testing.T) {
	b := written(data(31, 32, 1024))
	for _, less := range []int{17, 18} {
		none(t, b[:less])
	}
	for long := 19; long <= len(b); long++ {
		it, code := Take(b[:long])
		if code != api.OK || !alike(it, data(31, 32, long-19)) {
			t.Errorf("data of %d bytes: %+v, %d", long, it, code)
		}
	}
	none(t, append(b, 'b'))
	b = written(order(1, row(64, 63)))
	for _, less := range []int{17, 18} {
		none(t, b[:less])
	}
	for long := 19; long <= len(b); long++ {
		it, code := Take(b[:long])
		if code != api.OK || !alike(it, order(1, row(long-18, 63))) {
			t.Errorf("an order of %d bytes: %+v, %d", long, it, code)
		}
	}
	none(t, append(b, 63))
	b = append(written(install(row(64, 5))), 0, 0, 0, 0, 0, 0, 0, 5)
	for long := 17; long <= len(b); long++ {
		many, within := (long-17)/8, (long-17)%8
		if within != 0 || many < 2 || many > 64 {
			none(t, b[:long])
			continue
		}
		if it, code := Take(b[:long]); code != api.OK || !alike(it, install(row(many, 5))) {
			t.Errorf("an install of %d bytes: %+v, %d", long, it, code)
		}
	}
}

// P3.2: each byte that an item's bytes have tells something, or makes them none: what is taken is written as those bytes again.
func TestTakeIsWritten(t *testing.T) {
	for kind := api.IData; kind <= api.IInstall; kind++ {
		b := written(plain(kind))
		for at := range b {
			for x := range 256 {
				turned := bytes.Clone(b)
				turned[at] = byte(x)
				it, code := Take(turned)
				if code == api.OK && bytes.Equal(written(it), turned) && May(it) {
					continue
				}
				if code != api.ErrForm || !zero(it) {
					t.Errorf("Take(%x) = %+v, %d", turned, it, code)
				}
			}
		}
	}
}

// P3.1, P3.2: what is handed in is not written into, not even behind its end, and what comes out is new memory.
func TestHandedInStays(t *testing.T) {
	for kind := api.IData; kind <= api.IInstall; kind++ {
		numbers, letters := append(plain(kind).L, 77, 78, 79), append(plain(kind).Body, "tail"...)
		it := plain(kind)
		it.L, it.Body = numbers[:len(it.L)], letters[:len(it.Body)]
		wasNumbers, wasLetters := slices.Clone(numbers), bytes.Clone(letters)
		May(it)
		Same(it, it)
		b := append(Bytes(it), "behind"...)
		clear(b)
		if !slices.Equal(numbers, wasNumbers) || !bytes.Equal(letters, wasLetters) {
			t.Errorf("kind %d: an item was written into", kind)
		}
		whole := append(written(it), "behind"...)
		was := bytes.Clone(whole)
		got, _ := Take(whole[:len(whole)-6])
		if !bytes.Equal(whole, was) {
			t.Errorf("kind %d: bytes were written into", kind)
		}
		clear(whole)
		if !alike(got, it) {
			t.Errorf("kind %d: what was taken shares memory with the bytes", kind)
		}
		whole = bytes.Clone(was)
		got, _ = Take(whole[:len(whole)-6])
		got.L, got.Body = append(got.L, 1), append(got.Body, "more"...)
		clear(got.L)
		clear(got.Body)
		if !bytes.Equal(whole, was) {
			t.Errorf("kind %d: bytes share memory with what was taken", kind)
		}
	}
}
