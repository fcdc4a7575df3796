package pkt

import (
	"bytes"
	"encoding/binary"
	"hash/crc32"
	"math"
	"slices"
	"testing"

	"precentor/api"
)

const far = 1 << 62

// Numbers that are below 0, and such that are above Far.
var (
	below = []int{-1, -2, -255, -256, -far, math.MinInt + 1, math.MinInt}
	above = []int{far + 1, far + 2, math.MaxInt - 1, math.MaxInt}
)

// row is so many numbers, all alike.
func row(many, n int) []int {
	return slices.Repeat([]int{n}, many)
}

// but is a list with one of its places set anew.
func but(l []int, at, n int) []int {
	l = slices.Clone(l)
	l[at] = n
	return l
}

// items is an ordinary item of each kind.
func items() []api.Item {
	return []api.Item{
		{Kind: api.IData, Seq: 2, Epoch: 1, Index: 1, Total: 3, Body: []byte("hi")},
		{Kind: api.IOrder, Seq: 2, Epoch: 1, Index: 1, L: []int{0, 63, 2}},
		{Kind: api.IToken, Seq: 2, Epoch: 1},
		{Kind: api.IFlush, Seq: 2, Epoch: 1, Index: 1},
		{Kind: api.IAck, Seq: 2, Epoch: 1, Count: 7},
		{Kind: api.IInstall, Seq: 2, Epoch: 1, L: []int{3, 4}},
	}
}

// edgeItems are items at the bounds of what may be.
func edgeItems() []api.Item {
	return []api.Item{
		{Kind: api.IData, Seq: 1, Total: 1},
		{Kind: api.IData, Seq: far, Epoch: far, Index: 31, Total: 32, Body: bytes.Repeat([]byte{0xa5}, 1024)},
		{Kind: api.IOrder, Seq: 1, L: []int{0}},
		{Kind: api.IOrder, Seq: far, Epoch: far, Index: 1, L: row(64, 63)},
		{Kind: api.IToken, Seq: 1},
		{Kind: api.IToken, Seq: far, Epoch: far},
		{Kind: api.IFlush, Seq: 1},
		{Kind: api.IAck, Seq: 1},
		{Kind: api.IAck, Seq: far, Epoch: far, Count: far},
		{Kind: api.IInstall, Seq: 1, L: []int{0, 0}},
		{Kind: api.IInstall, Seq: far, Epoch: far, L: row(64, far)},
	}
}

// badItems are items that may not be.
func badItems() []api.Item {
	return []api.Item{
		{},
		{Kind: 7, Seq: 2, Epoch: 1},
		{Kind: api.IToken},
		{Kind: api.IToken, Seq: -1},
		{Kind: api.IToken, Seq: far + 1},
		{Kind: api.IToken, Seq: 1, Epoch: -1},
		{Kind: api.IToken, Seq: 1, Epoch: far + 1},
		{Kind: api.IToken, Seq: 1, Body: []byte{0}},
		{Kind: api.IData, Seq: 1},
		{Kind: api.IData, Seq: 1, Index: 1, Total: 1},
		{Kind: api.IData, Seq: 1, Total: 33},
		{Kind: api.IData, Seq: 1, Total: 1, Body: make([]byte, 1025)},
		{Kind: api.IOrder, Seq: 1},
		{Kind: api.IOrder, Seq: 1, L: []int{64}},
		{Kind: api.IOrder, Seq: 1, Index: 2, L: []int{1}},
		{Kind: api.IFlush, Seq: 1, Index: 2},
		{Kind: api.IAck, Seq: 1, Count: -1},
		{Kind: api.IInstall, Seq: 1, L: []int{1}},
		{Kind: api.IInstall, Seq: 1, L: row(65, 1)},
	}
}

// carry, nak and stable are packets with the parts that their kinds name; the former is an item or a repair.
func carry(kind int, it api.Item) api.Packet {
	return api.Packet{Kind: kind, From: 1, Item: it}
}

func nak(to, lo, many int) api.Packet {
	return api.Packet{Kind: api.PNak, From: 1, To: to, Lo: lo, Many: many}
}

func stable(top int, l []int) api.Packet {
	return api.Packet{Kind: api.PStable, From: 1, Top: top, L: l}
}

// plain are ordinary packets of each kind, with an item of each kind.
func plain() []api.Packet {
	var l []api.Packet
	for _, it := range items() {
		l = append(l, carry(api.PItem, it), carry(api.PRepair, it))
	}
	return append(l, nak(2, 5, 1), stable(7, []int{0, 9}))
}

// from is a packet of another sender.
func from(p api.Packet, who int) api.Packet {
	p.From = who
	return p
}

// good are packets that may be: ordinary ones, and those at the edges.
func good() []api.Packet {
	l := plain()
	for _, p := range plain() {
		l = append(l, from(p, 0), from(p, 62), from(p, 63))
	}
	for _, it := range edgeItems() {
		l = append(l, carry(api.PItem, it), carry(api.PRepair, it))
	}
	for _, to := range []int{0, 1, 63} {
		for _, lo := range []int{1, 2, 255, 256, far - 1, far} {
			for _, many := range []int{1, 2, 63, 64} {
				l = append(l, nak(to, lo, many))
			}
		}
	}
	for _, n := range []int{0, 1, 255, 256, far - 1, far} {
		for _, many := range []int{2, 3, 63, 64} {
			l = append(l, stable(n, row(many, 6)), stable(8, row(many, n)), stable(n, but(row(many, 6), 0, n)), stable(8, but(row(many, 6), many-1, n)))
		}
	}
	return l
}

// bad are packets that may not be.
func bad() []api.Packet {
	l := []api.Packet{{}, {From: 1}, {Kind: api.PItem}, {Kind: api.PRepair, From: 63}}
	for _, p := range plain() {
		for _, kind := range []int{math.MinInt, -1, 0, 5, 6, 255, 256, 257, 259, 260, 1<<32 + 3, far, math.MaxInt} {
			p.Kind = kind
			l = append(l, p)
		}
	}
	for _, p := range plain() {
		for _, n := range slices.Concat(below, above, []int{64, 65, 255, 256, 257, far}) {
			l = append(l, from(p, n))
		}
		l = append(l, unnamed(p)...)
	}
	for _, it := range badItems() {
		l = append(l, carry(api.PItem, it), carry(api.PRepair, it))
	}
	for _, n := range slices.Concat(below, above, []int{64, 65, 255, 256, 257, far}) {
		l = append(l, nak(n, 5, 1))
	}
	for _, n := range slices.Concat(below, above, []int{0}) {
		l = append(l, nak(2, n, 1))
	}
	for _, n := range slices.Concat(below, above, []int{0, 65, 66, 255, 256, 257, far}) {
		l = append(l, nak(2, 5, n))
	}
	for _, n := range slices.Concat(below, above) {
		l = append(l, stable(n, []int{0, 9}), stable(7, []int{n, 9}), stable(7, []int{0, n}), stable(7, but(row(64, 1), 31, n)), stable(7, but(row(64, 1), 63, n)))
	}
	return append(l, stable(7, nil), stable(7, []int{}), stable(7, []int{1}), stable(7, row(65, 1)), stable(7, row(66, 0)), stable(7, row(128, 0)))
}

// unnamed are packets with one thing set that their kind does not name.
func unnamed(p api.Packet) []api.Packet {
	var l []api.Packet
	set := func(turn func(q *api.Packet)) {
		q := p
		turn(&q)
		l = append(l, q)
	}
	for _, n := range []int{math.MinInt, -1, 1, 2, 63, 256, far, math.MaxInt} {
		if p.Kind != api.PNak {
			set(func(q *api.Packet) { q.To = n })
			set(func(q *api.Packet) { q.Lo = n })
			set(func(q *api.Packet) { q.Many = n })
		}
		if p.Kind != api.PStable {
			set(func(q *api.Packet) { q.Top = n })
			set(func(q *api.Packet) { q.L = []int{n} })
			set(func(q *api.Packet) { q.L = []int{n, 1} })
		}
		if p.Kind == api.PNak || p.Kind == api.PStable {
			set(func(q *api.Packet) { q.Item.Kind = n })
			set(func(q *api.Packet) { q.Item.Seq = n })
			set(func(q *api.Packet) { q.Item.Epoch = n })
			set(func(q *api.Packet) { q.Item.Index = n })
			set(func(q *api.Packet) { q.Item.Total = n })
			set(func(q *api.Packet) { q.Item.Count = n })
		}
	}
	if p.Kind != api.PStable {
		set(func(q *api.Packet) { q.L = []int{0} })
		set(func(q *api.Packet) { q.L = []int{0, 0} })
	}
	if p.Kind == api.PNak || p.Kind == api.PStable {
		set(func(q *api.Packet) { q.Item.L = []int{0} })
		set(func(q *api.Packet) { q.Item.Body = []byte{0} })
		for _, it := range items() {
			set(func(q *api.Packet) { q.Item = it })
		}
	}
	return l
}

// seal is bytes with their sum, by the library.
func seal(b []byte) []byte {
	return binary.LittleEndian.AppendUint32(slices.Clone(b), crc32.ChecksumIEEE(b))
}

// itemBytes is an item's bytes, by the library.
func itemBytes(it api.Item) []byte {
	eight := binary.BigEndian.AppendUint64
	b := eight(eight([]byte{byte(it.Kind)}, uint64(it.Seq)), uint64(it.Epoch))
	switch it.Kind {
	case api.IData:
		b = append(b, byte(it.Index), byte(it.Total))
	case api.IOrder, api.IFlush:
		b = append(b, byte(it.Index))
	case api.IAck:
		b = eight(b, uint64(it.Count))
	}
	for _, n := range it.L {
		if it.Kind == api.IOrder {
			b = append(b, byte(n))
		} else {
			b = eight(b, uint64(n))
		}
	}
	return append(b, it.Body...)
}

// open is a packet's bytes without their sum, by the library.
func open(p api.Packet) []byte {
	eight := binary.BigEndian.AppendUint64
	b := []byte{0xa5, byte(p.Kind), byte(p.From)}
	switch p.Kind {
	case api.PItem, api.PRepair:
		b = append(b, itemBytes(p.Item)...)
	case api.PNak:
		b = append(eight(append(b, byte(p.To)), uint64(p.Lo)), byte(p.Many))
	case api.PStable:
		b = eight(b, uint64(p.Top))
		for _, n := range p.L {
			b = eight(b, uint64(n))
		}
	}
	return b
}

// clone is a packet with memory of its own.
func clone(p api.Packet) api.Packet {
	p.L, p.Item.L, p.Item.Body = slices.Clone(p.L), slices.Clone(p.Item.L), slices.Clone(p.Item.Body)
	return p
}

// numbers are a packet's numbers, but for those in lists.
func numbers(p api.Packet) [12]int {
	it := p.Item
	return [12]int{p.Kind, p.From, p.To, p.Lo, p.Many, p.Top, it.Kind, it.Seq, it.Epoch, it.Index, it.Total, it.Count}
}

// alike are packets the same: a way of its own to ask.
func alike(a, b api.Packet) bool {
	return numbers(a) == numbers(b) && slices.Compare(a.L, b.L) == 0 &&
		slices.Compare(a.Item.L, b.Item.L) == 0 && string(a.Item.Body) == string(b.Item.Body)
}

// refused asks that bytes are none of any packet, for a reason.
func refused(t *testing.T, b []byte, want api.Errno) {
	t.Helper()
	if p, code := Read(b); code != want || !alike(p, api.Packet{}) {
		t.Errorf("Read(%x) = %+v, %d, want nothing and %d", b, p, code, want)
	}
}

// none asks that bytes, sealed, are none of any packet.
func none(t *testing.T, b []byte) {
	t.Helper()
	refused(t, seal(b), api.ErrForm)
}

// P4.1: packets that may be, and such that may not; the latter have no bytes.
func TestMay(t *testing.T) {
	for _, p := range good() {
		if !May(p) {
			t.Errorf("May(%+v) = false", p)
		}
	}
	for _, p := range bad() {
		if May(p) {
			t.Errorf("May(%+v) = true", p)
		}
		if b := Bytes(p); len(b) != 0 {
			t.Errorf("Bytes(%+v) = %x, want none", p, b)
		}
	}
}

// P4.1: a list without elements is none, be it nil or not.
func TestMayOfEmptyLists(t *testing.T) {
	for _, p := range plain() {
		q := clone(p)
		if len(q.L) == 0 {
			q.L = []int{}
		}
		if len(q.Item.L) == 0 {
			q.Item.L = []int{}
		}
		if len(q.Item.Body) == 0 {
			q.Item.Body = []byte{}
		}
		if !May(q) || !bytes.Equal(Bytes(q), seal(open(p))) {
			t.Errorf("%+v: empty lists are not as none", p)
		}
	}
}

// P4.1: bytes that are known; those of the question are the document's example.
func TestBytesKnown(t *testing.T) {
	const seven = "\x00\x00\x00\x00\x00\x00\x00"
	const head = seven + "\x02" + seven + "\x01"
	for i, x := range []struct {
		p    api.Packet
		want string
	}{
		{nak(2, 5, 1), "\xa5\x03\x01\x02" + seven + "\x05\x01"},
		{from(nak(63, far, 64), 0), "\xa5\x03\x00\x3f\x40" + seven + "\x40"},
		{nak(2, 0x0102030405060708, 1), "\xa5\x03\x01\x02\x01\x02\x03\x04\x05\x06\x07\x08\x01"},
		{stable(7, []int{0, 9}), "\xa5\x04\x01" + seven + "\x07" + seven + "\x00" + seven + "\x09"},
		{from(stable(far, []int{256, far, 1}), 63), "\xa5\x04\x3f\x40" + seven + "\x00\x00\x00\x00\x00\x00\x01\x00\x40" + seven + seven + "\x01"},
		{carry(api.PItem, items()[0]), "\xa5\x01\x01\x01" + head + "\x01\x03hi"},
		{carry(api.PRepair, items()[0]), "\xa5\x02\x01\x01" + head + "\x01\x03hi"},
		{carry(api.PItem, items()[1]), "\xa5\x01\x01\x02" + head + "\x01\x00\x3f\x02"},
		{carry(api.PRepair, items()[2]), "\xa5\x02\x01\x03" + head},
		{carry(api.PItem, items()[3]), "\xa5\x01\x01\x04" + head + "\x01"},
		{carry(api.PItem, items()[4]), "\xa5\x01\x01\x05" + head + seven + "\x07"},
		{carry(api.PRepair, items()[5]), "\xa5\x02\x01\x06" + head + seven + "\x03" + seven + "\x04"},
	} {
		b := Bytes(x.p)
		if want := seal([]byte(x.want)); !bytes.Equal(b, want) {
			t.Errorf("%d: %x, want %x", i, b, want)
		}
		if p, code := Read(seal([]byte(x.want))); code != api.OK || !alike(p, x.p) {
			t.Errorf("%d: read %+v, %d", i, p, code)
		}
	}
}

// P4.1, P4.2, P4.3: a packet that may be is written as the table says, and is read as it was written.
func TestThereAndBack(t *testing.T) {
	for _, p := range good() {
		b := Bytes(p)
		if want := seal(open(p)); !bytes.Equal(b, want) {
			t.Errorf("Bytes(%+v) = %x, want %x", p, b, want)
		}
		if got, code := Read(b); code != api.OK || !alike(got, p) || !Same(got, p) {
			t.Errorf("Read(%x) = %+v, %d, want %+v", b, got, code, p)
		}
	}
}

// P4.1: two packets are the same if all of it is, whatever they are.
func TestSame(t *testing.T) {
	full := api.Packet{Kind: 9, From: -1, To: 3, Lo: 4, Many: 5, Top: 6, L: []int{7, 8},
		Item: api.Item{Kind: 10, Seq: 11, Epoch: 12, Index: 13, Total: 14, Count: 15, L: []int{16, 17}, Body: []byte("xy")}}
	for i, turn := range []func(p *api.Packet){
		func(p *api.Packet) { p.Kind = 8 },
		func(p *api.Packet) { p.From = 1 },
		func(p *api.Packet) { p.To = math.MinInt },
		func(p *api.Packet) { p.Lo = math.MaxInt },
		func(p *api.Packet) { p.Many = 0 },
		func(p *api.Packet) { p.Top = -6 },
		func(p *api.Packet) { p.To, p.Lo = p.Lo, p.To },
		func(p *api.Packet) { p.L = nil },
		func(p *api.Packet) { p.L = []int{} },
		func(p *api.Packet) { p.L = []int{7} },
		func(p *api.Packet) { p.L = []int{8, 7} },
		func(p *api.Packet) { p.L = []int{7, 9} },
		func(p *api.Packet) { p.L = []int{7, 8, 0} },
		func(p *api.Packet) { p.Item = api.Item{} },
		func(p *api.Packet) { p.Item.Kind = 0 },
		func(p *api.Packet) { p.Item.Seq = 0 },
		func(p *api.Packet) { p.Item.Epoch = 0 },
		func(p *api.Packet) { p.Item.Index = 0 },
		func(p *api.Packet) { p.Item.Total = 0 },
		func(p *api.Packet) { p.Item.Count = 0 },
		func(p *api.Packet) { p.Item.L = nil },
		func(p *api.Packet) { p.Item.L = []int{} },
		func(p *api.Packet) { p.Item.L = []int{16, 18} },
		func(p *api.Packet) { p.Item.L = []int{16, 17, 0} },
		func(p *api.Packet) { p.Item.Body = nil },
		func(p *api.Packet) { p.Item.Body = []byte{} },
		func(p *api.Packet) { p.Item.Body = []byte("xz") },
		func(p *api.Packet) { p.Item.Body = []byte("xy\x00") },
		func(p *api.Packet) { p.L, p.Item.L = p.Item.L, p.L },
	} {
		other := clone(full)
		if !Same(full, other) || !Same(other, full) {
			t.Fatalf("%+v isn't the same as its copy", full)
		}
		turn(&other)
		if Same(full, other) || Same(other, full) {
			t.Errorf("%d: %+v is the same as %+v", i, full, other)
		}
	}
}

// P4.1: no elements are no elements, be a list nil or empty.
func TestSameOfEmptyLists(t *testing.T) {
	empty := []api.Packet{
		{}, {L: []int{}}, {L: make([]int, 0, 4)},
		{Item: api.Item{L: []int{}}}, {Item: api.Item{Body: []byte{}}},
		{L: []int{}, Item: api.Item{L: []int{}, Body: make([]byte, 0, 4)}},
	}
	for _, a := range empty {
		for _, b := range empty {
			if !Same(a, b) {
				t.Errorf("%#v isn't the same as %#v", a, b)
			}
		}
		for _, b := range []api.Packet{{L: []int{0}}, {Item: api.Item{L: []int{0}}}, {Item: api.Item{Body: []byte{0}}}} {
			if Same(a, b) || Same(b, a) {
				t.Errorf("%#v is the same as %#v", a, b)
			}
		}
	}
}

// P4.3: two that may be are written alike just if they are the same.
func TestWrittenAlike(t *testing.T) {
	l := good()
	var written [][]byte
	for _, p := range l {
		written = append(written, Bytes(p))
	}
	for i, a := range l {
		for j, b := range l {
			if same := alike(a, b); bytes.Equal(written[i], written[j]) != same || Same(a, b) != same {
				t.Fatalf("%+v, %+v: the same %t, else otherwise", a, b, same)
			}
		}
	}
}

// P4.2: bytes that can't be opened are refused with the code of that.
func TestReadUnopened(t *testing.T) {
	for _, s := range []string{"", "a", "ab", "abc", "\xa5\x03\x01", "\x00\x00\x00"} {
		refused(t, []byte(s), api.ErrForm)
	}
	refused(t, nil, api.ErrForm)
	for _, s := range []string{"abcd", "\x01\x00\x00\x00", "\xa5\x03\x01\x02\x05"} {
		refused(t, []byte(s), api.ErrSum)
	}
	for _, p := range plain() {
		b := seal(open(p))
		refused(t, open(p), api.ErrSum)
		refused(t, b[:3], api.ErrForm)
		for less := 4; less < len(b); less++ {
			refused(t, b[:less], api.ErrSum)
		}
		refused(t, append(b, 0), api.ErrSum)
	}
}

// P4.2: sealed bytes that are too short for any packet, or without the mark, or of no kind.
func TestReadNone(t *testing.T) {
	none(t, nil)
	for x := range 256 {
		for _, tail := range []string{"", "\x01", "\x03\x01", "\x04\x01"} {
			none(t, append([]byte{byte(x)}, tail...))
		}
	}
	for _, p := range plain() {
		for x := range 256 {
			b := open(p)
			if b[0] = byte(x); x != 0xa5 {
				none(t, b)
			}
			b = open(p)
			if b[1] = byte(x); x < api.PItem || x > api.PStable {
				none(t, b)
				none(t, b[:3])
			}
			b = open(p)
			if b[2] = byte(x); x > 63 {
				none(t, b)
			}
		}
		none(t, append([]byte{0}, open(p)...))
		none(t, open(p)[1:])
	}
}

// P4.2: bytes as of a packet that may not be are none of any, if they tell all that is wrong with it.
func TestReadOutOfBounds(t *testing.T) {
	for _, n := range []int{64, 65, 127, 128, 255} {
		none(t, open(nak(n, 5, 1)))
	}
	for _, n := range slices.Concat(below, above, []int{0}) {
		none(t, open(nak(2, n, 1)))
	}
	for _, n := range []int{0, 65, 66, 127, 128, 255} {
		none(t, open(nak(2, 5, n)))
	}
	for _, n := range slices.Concat(below, above) {
		none(t, open(stable(n, []int{0, 9})))
		for at := range 3 {
			none(t, open(stable(7, but(row(3, 1), at, n))))
		}
		none(t, open(stable(7, but(row(64, 1), 63, n))))
	}
	for _, it := range badItems() {
		none(t, open(carry(api.PItem, it)))
		none(t, open(carry(api.PRepair, it)))
	}
}

// P4.2: bytes of another length than a packet's, sealed anew; data and orders have no fixed one, and are cut elsewhere.
func TestReadLengths(t *testing.T) {
	for _, p := range plain() {
		b := open(p)
		if p.Item.Kind == api.IData || p.Item.Kind == api.IOrder {
			none(t, b[:3+17])
			none(t, b[:3+16])
			none(t, b[:3])
			continue
		}
		for x := range 256 {
			none(t, append(slices.Clone(b), byte(x)))
		}
		// The sum's four bytes are no part of a packet, though they be sealed.
		none(t, seal(b))
		// A stable packet and an install of two numbers are the shortest ones that may be.
		for less := range b {
			none(t, b[:less])
		}
	}
	for _, kind := range []int{api.PItem, api.PRepair} {
		most := carry(kind, edgeItems()[1])
		none(t, append(open(most), 0))
		most = carry(kind, edgeItems()[3])
		none(t, append(open(most), 0))
	}
}

// P4.2: a stable packet ends behind a number, and has two to 64 of them behind its Top.
func TestReadStableLengths(t *testing.T) {
	b := open(stable(7, row(66, 5)))
	for long := 3; long <= len(b); long++ {
		many, within := (long-3)/8-1, (long-3)%8
		if within != 0 || many < 2 || many > 64 {
			none(t, b[:long])
			continue
		}
		if p, code := Read(seal(b[:long])); code != api.OK || !alike(p, stable(7, row(many, 5))) {
			t.Errorf("a stable packet of %d numbers: %+v, %d", many, p, code)
		}
	}
}

// P4.2: each byte tells something, or makes the bytes none: what is read is written as those bytes again.
func TestReadIsWritten(t *testing.T) {
	for _, p := range plain() {
		b := open(p)
		for at := range b {
			for x := range 256 {
				turned := slices.Clone(b)
				turned[at] = byte(x)
				got, code := Read(seal(turned))
				if code == api.OK && bytes.Equal(open(got), turned) && May(got) {
					continue
				}
				if code != api.ErrForm || !alike(got, api.Packet{}) {
					t.Errorf("Read(%x) = %+v, %d", turned, got, code)
				}
			}
		}
	}
}

// spoilt is bytes, of which up to four from a place on are turned.
func spoilt(b []byte, at int, by ...byte) []byte {
	out := slices.Clone(b)
	for i, x := range by {
		if at+i < len(out) {
			out[at+i] ^= x
		}
	}
	return out
}

// P4.3: what is written, and spoilt at one place, is refused; by nothing, it is read.
func TestSpoilt(t *testing.T) {
	bys := [][]byte{{255, 255, 255, 255}, {1, 0, 0, 128}, {128, 0, 0, 1}, {0xa5, 0, 0xa5}, {0x20, 0x83, 0xb8, 0xed}, {0x5a, 0xa5, 7, 9}}
	for bit := range 32 {
		by := make([]byte, 4)
		by[bit/8] = 1 << (bit % 8)
		bys = append(bys, by)
	}
	for _, p := range plain() {
		b := Bytes(p)
		for at := range b {
			for x := 1; x < 256; x++ {
				refused(t, spoilt(b, at, byte(x)), api.ErrSum)
			}
			for _, by := range bys {
				if s := spoilt(b, at, by...); !bytes.Equal(s, b) {
					refused(t, s, api.ErrSum)
				}
			}
			if got, code := Read(spoilt(b, at, 0, 0, 0, 0)); code != api.OK || !alike(got, p) {
				t.Errorf("unchanged at %d: %+v, %d", at, got, code)
			}
		}
	}
}

// roomy is a packet like another whose lists have something behind their ends, and these lists whole.
func roomy(p api.Packet) (api.Packet, []int, []int, []byte) {
	l, itemL, body := append(slices.Clone(p.L), 77, 78), append(slices.Clone(p.Item.L), 79, 80), append(slices.Clone(p.Item.Body), "tail"...)
	p.L, p.Item.L, p.Item.Body = l[:len(p.L)], itemL[:len(p.Item.L)], body[:len(p.Item.Body)]
	return p, l, itemL, body
}

// P4.1, R3: a packet that is handed in is not written into, not even behind its lists' ends, and its bytes are new memory.
func TestPacketStays(t *testing.T) {
	for _, p := range slices.Concat(plain(), []api.Packet{{Kind: 9, L: []int{1}}, from(stable(1, []int{2, 3}), 64)}) {
		q, l, itemL, body := roomy(p)
		wasL, wasItemL, wasBody := slices.Clone(l), slices.Clone(itemL), slices.Clone(body)
		May(q)
		Same(q, q)
		b := append(Bytes(q), "behind"...)
		clear(b)
		if !slices.Equal(l, wasL) || !slices.Equal(itemL, wasItemL) || !bytes.Equal(body, wasBody) {
			t.Errorf("%+v was written into", p)
		}
		if May(p) && !bytes.Equal(Bytes(q), seal(open(p))) {
			t.Errorf("%+v: its bytes were kept by the call that gave them out", p)
		}
	}
}

// P4.2, R3: bytes that are handed in are not written into, not even behind their end, and what is read is new memory.
func TestBytesStay(t *testing.T) {
	for _, p := range plain() {
		whole := append(seal(open(p)), "behind"...)
		was := slices.Clone(whole)
		for long := range len(whole) + 1 {
			Read(whole[:long])
		}
		got, _ := Read(whole[:len(whole)-6])
		if !bytes.Equal(whole, was) {
			t.Errorf("%+v: bytes were written into", p)
		}
		clear(whole)
		if !alike(got, p) {
			t.Errorf("%+v: what was read shares memory with the bytes", p)
		}
		copy(whole, was)
		got, _ = Read(whole[:len(whole)-6])
		clear(append(got.L, 1))
		clear(append(got.Item.L, 1))
		clear(append(got.Item.Body, "more"...))
		if !bytes.Equal(whole, was) {
			t.Errorf("%+v: bytes share memory with what was read", p)
		}
	}
}
