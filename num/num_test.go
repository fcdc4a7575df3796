package num

import (
	"bytes"
	"encoding/binary"
	"math"
	"slices"
	"testing"

	"precentor/api"
)

// tops are the highest numbers that fit, by width.
var tops = map[int]int{1: 255, 2: 65535, 8: 1 << 62}

// noWidths are numbers that are no width.
var noWidths = []int{math.MinInt, -8, -2, -1, 0, 3, 4, 5, 6, 7, 9, 10, 16, 64, 256, 258, 1 << 32, 1<<32 + 1, math.MaxInt}

// tails are what may stand behind a number.
var tails = []string{"", "\x00", "\xff", "z", "\x00\x00\x00\x00\x00\x00\x00\x00\x00", "\xff\xff\xff\xff\xff\xff\xff\xff\xff"}

// bytesOf is a number's bytes as the library has them.
func bytesOf(n, wide int) []byte {
	return binary.BigEndian.AppendUint64(nil, uint64(n))[8-wide:]
}

// fitting are numbers that fit a width: its edges, each bit alone, and some of no plain pattern.
func fitting(wide int) []int {
	top := tops[wide]
	l := []int{0, 1, 2, 127, 128, 254, 255, top - 1, top}
	for n := 1; n > 0 && n <= top; n <<= 1 {
		l = append(l, n-1, n)
	}
	seed := uint64(wide)
	for range 200 {
		seed = seed*6364136223846793005 + 1442695040888963407
		l = append(l, int((seed>>1)%uint64(top)))
	}
	return l
}

// unfit are numbers that don't fit a width.
func unfit(wide int) []int {
	top := tops[wide]
	l := []int{-1, -2, -255, -256, -65536, math.MinInt, math.MinInt + 1, -top, -top - 1, top + 1, top + 2, top + top/2, math.MaxInt}
	for n := top + 1; n > 0; n <<= 1 {
		l = append(l, n)
	}
	return l
}

// P2.1: a number fits from 0 to the width's bound, and in no other width.
func TestFits(t *testing.T) {
	for wide := range tops {
		for _, n := range fitting(wide) {
			if !Fits(n, wide) {
				t.Errorf("Fits(%d, %d) = false", n, wide)
			}
		}
		for _, n := range unfit(wide) {
			if Fits(n, wide) {
				t.Errorf("Fits(%d, %d) = true", n, wide)
			}
		}
	}
	for _, wide := range noWidths {
		for _, n := range []int{math.MinInt, -1, 0, 1, 255, 65535, 1 << 62, math.MaxInt} {
			if Fits(n, wide) {
				t.Errorf("Fits(%d, %d) = true", n, wide)
			}
		}
	}
}

// P2.1: bytes that are known.
func TestPutKnown(t *testing.T) {
	for _, x := range []struct {
		n, wide int
		want    string
	}{
		{0, 1, "\x00"},
		{1, 1, "\x01"},
		{255, 1, "\xff"},
		{256, 1, ""},
		{-1, 1, ""},
		{0, 2, "\x00\x00"},
		{255, 2, "\x00\xff"},
		{256, 2, "\x01\x00"},
		{258, 2, "\x01\x02"},
		{65535, 2, "\xff\xff"},
		{65536, 2, ""},
		{-1, 2, ""},
		{0, 8, "\x00\x00\x00\x00\x00\x00\x00\x00"},
		{0x0102030405060708, 8, "\x01\x02\x03\x04\x05\x06\x07\x08"},
		{1<<62 - 1, 8, "\x3f\xff\xff\xff\xff\xff\xff\xff"},
		{1 << 62, 8, "\x40\x00\x00\x00\x00\x00\x00\x00"},
		{1<<62 + 1, 8, ""},
		{math.MaxInt, 8, ""},
		{-1, 8, ""},
		{math.MinInt, 8, ""},
	} {
		if got := Put(x.n, x.wide); string(got) != x.want {
			t.Errorf("Put(%d, %d) = %x, want %x", x.n, x.wide, got, x.want)
		}
	}
}

// P2.1: a number's bytes are the library's, none if it doesn't fit.
func TestPutAsLibrary(t *testing.T) {
	for wide := range tops {
		for _, n := range fitting(wide) {
			if got, want := Put(n, wide), bytesOf(n, wide); !bytes.Equal(got, want) {
				t.Errorf("Put(%d, %d) = %x, want %x", n, wide, got, want)
			}
		}
		for _, n := range unfit(wide) {
			if got := Put(n, wide); len(got) != 0 {
				t.Errorf("Put(%d, %d) = %x, want none", n, wide, got)
			}
		}
	}
	for _, wide := range noWidths {
		for _, n := range []int{-1, 0, 1, 255, 1 << 62} {
			if got := Put(n, wide); len(got) != 0 {
				t.Errorf("Put(%d, %d) = %x, want none", n, wide, got)
			}
		}
	}
}

// checkTake: Take answers that number and that rest, or that code and nothing.
func checkTake(t *testing.T, b string, wide, want int, rest string, code api.Errno) {
	t.Helper()
	n, r, e := Take([]byte(b), wide)
	if n != want || string(r) != rest || e != code {
		t.Errorf("Take(%x, %d) = %d, %x, %d, want %d, %x, %d", b, wide, n, r, e, want, rest, code)
	}
}

// P2.2: numbers that are taken, and what is behind them.
func TestTake(t *testing.T) {
	checkTake(t, "\x00", 1, 0, "", api.OK)
	checkTake(t, "\xff\x01", 1, 255, "\x01", api.OK)
	checkTake(t, "\x01\x02", 2, 258, "", api.OK)
	checkTake(t, "\x01\x02\x03", 2, 258, "\x03", api.OK)
	checkTake(t, "\xff\xff\xff", 2, 65535, "\xff", api.OK)
	checkTake(t, "\x00\x00\x00\x00\x00\x00\x00\x00", 8, 0, "", api.OK)
	checkTake(t, "\x01\x02\x03\x04\x05\x06\x07\x08\x09", 8, 0x0102030405060708, "\x09", api.OK)
	checkTake(t, "\x3f\xff\xff\xff\xff\xff\xff\xff", 8, 1<<62-1, "", api.OK)
	checkTake(t, "\x40\x00\x00\x00\x00\x00\x00\x00\x01", 8, 1<<62, "\x01", api.OK)
}

// P2.2: bytes that are no number.
func TestTakeForm(t *testing.T) {
	for wide := range tops {
		for n := range wide {
			checkTake(t, string(make([]byte, n)), wide, 0, "", api.ErrForm)
			checkTake(t, string(bytes.Repeat([]byte{0x3f}, n)), wide, 0, "", api.ErrForm)
		}
		if n, rest, e := Take(nil, wide); n != 0 || len(rest) != 0 || e != api.ErrForm {
			t.Errorf("Take(nil, %d) = %d, %x, %d", wide, n, rest, e)
		}
	}
	for _, tail := range tails {
		for _, b := range []string{
			"\x40\x00\x00\x00\x00\x00\x00\x01",
			"\x40\x00\x00\x01\x00\x00\x00\x00",
			"\x41\x00\x00\x00\x00\x00\x00\x00",
			"\x7f\xff\xff\xff\xff\xff\xff\xff",
			"\x80\x00\x00\x00\x00\x00\x00\x00",
			"\x80\x00\x00\x00\x00\x00\x00\x01",
			"\xc0\x00\x00\x00\x00\x00\x00\x00",
			"\xff\xff\xff\xff\xff\xff\xff\xff",
		} {
			checkTake(t, b+tail, 8, 0, "", api.ErrForm)
		}
	}
}

// P2.2: what is no width is told ahead of what the bytes are.
func TestTakeArg(t *testing.T) {
	for _, wide := range noWidths {
		for _, b := range []string{"", "\x00", "\x01\x02\x03", "\xff\xff\xff\xff\xff\xff\xff\xff", string(make([]byte, 300))} {
			checkTake(t, b, wide, 0, "", api.ErrArg)
		}
		if n, rest, e := Take(nil, wide); n != 0 || len(rest) != 0 || e != api.ErrArg {
			t.Errorf("Take(nil, %d) = %d, %x, %d", wide, n, rest, e)
		}
	}
}

// P2.3: a row's bytes are its numbers' bytes, in order.
func TestPutRow(t *testing.T) {
	for _, x := range []struct {
		l    []int
		wide int
		want string
	}{
		{nil, 1, ""},
		{[]int{}, 8, ""},
		{nil, 3, ""},
		{[]int{7}, 1, "\x07"},
		{[]int{3, 1, 2}, 1, "\x03\x01\x02"},
		{[]int{1, 256, 3}, 2, "\x00\x01\x01\x00\x00\x03"},
		{[]int{258, 1 << 62}, 8, "\x00\x00\x00\x00\x00\x00\x01\x02\x40\x00\x00\x00\x00\x00\x00\x00"},
		{[]int{256, 1, 2}, 1, ""},
		{[]int{1, 256, 2}, 1, ""},
		{[]int{1, 2, 256}, 1, ""},
		{[]int{1, -1, 2}, 2, ""},
		{[]int{1, 65536}, 2, ""},
		{[]int{1<<62 + 1, 0}, 8, ""},
		{[]int{0, math.MinInt}, 8, ""},
		{[]int{0, 1}, 0, ""},
		{[]int{0, 1}, 3, ""},
		{[]int{0, 1}, 4, ""},
		{[]int{0, 1}, -1, ""},
	} {
		if got := PutRow(x.l, x.wide); string(got) != x.want {
			t.Errorf("PutRow(%d, %d) = %x, want %x", x.l, x.wide, got, x.want)
		}
	}
	for wide := range tops {
		var want []byte
		for _, n := range fitting(wide) {
			want = append(want, Put(n, wide)...)
		}
		if got := PutRow(fitting(wide), wide); !bytes.Equal(got, want) {
			t.Errorf("PutRow in %d isn't Put of each", wide)
		}
	}
}

// P2.3: one number of a row, at any place, that doesn't fit leaves nothing.
func TestPutRowOneUnfit(t *testing.T) {
	for wide := range tops {
		for _, n := range unfit(wide) {
			for at := range 4 {
				l := []int{1, 2, 3, 4}
				l[at] = n
				if got := PutRow(l, wide); len(got) != 0 {
					t.Errorf("PutRow(%d, %d) = %x, want none", l, wide, got)
				}
			}
		}
	}
}

// checkTakeRow: TakeRow answers that row and that rest, or that code and nothing.
func checkTakeRow(t *testing.T, b string, many, wide int, want []int, rest string, code api.Errno) {
	t.Helper()
	l, r, e := TakeRow([]byte(b), many, wide)
	if !slices.Equal(l, want) || string(r) != rest || e != code {
		t.Errorf("TakeRow(%x, %d, %d) = %d, %x, %d, want %d, %x, %d", b, many, wide, l, r, e, want, rest, code)
	}
}

// P2.3: rows that are taken, and what is left.
func TestTakeRow(t *testing.T) {
	checkTakeRow(t, "", 0, 1, nil, "", api.OK)
	checkTakeRow(t, "", 0, 8, nil, "", api.OK)
	checkTakeRow(t, "abc", 0, 2, nil, "abc", api.OK)
	checkTakeRow(t, "\xff\xff\xff\xff\xff\xff\xff\xff", 0, 8, nil, "\xff\xff\xff\xff\xff\xff\xff\xff", api.OK)
	checkTakeRow(t, "\x03\x01\x02", 3, 1, []int{3, 1, 2}, "", api.OK)
	checkTakeRow(t, "\x03\x01\x02", 2, 1, []int{3, 1}, "\x02", api.OK)
	checkTakeRow(t, "\x00\x01\x01\x00\x00\x03\x09", 3, 2, []int{1, 256, 3}, "\x09", api.OK)
	checkTakeRow(t, "\x00\x00\x00\x00\x00\x00\x01\x02\x40\x00\x00\x00\x00\x00\x00\x00z", 2, 8, []int{258, 1 << 62}, "z", api.OK)
	checkTakeRow(t, "\x00\x00\x00\x00\x00\x00\x00\x01\xff\xff\xff\xff\xff\xff\xff\xff", 1, 8, []int{1}, "\xff\xff\xff\xff\xff\xff\xff\xff", api.OK)
	if l, rest, e := TakeRow(nil, 0, 1); len(l) != 0 || len(rest) != 0 || e != api.OK {
		t.Errorf("TakeRow(nil, 0, 1) = %d, %x, %d", l, rest, e)
	}
}

// P2.3: too few bytes for a row, also where the bytes that it would need are above what a number holds.
func TestTakeRowTooFew(t *testing.T) {
	far := []int{1 << 31, 1 << 32, 1 << 60, 1 << 61, 1<<61 + 1, 1 << 62, 1<<62 + 1, math.MaxInt - 1, math.MaxInt}
	for wide := range tops {
		checkTakeRow(t, "", 1, wide, nil, "", api.ErrForm)
		for n := range 40 {
			b := string(make([]byte, n))
			checkTakeRow(t, b, n/wide, wide, make([]int, n/wide), b[n/wide*wide:], api.OK)
			checkTakeRow(t, b, n/wide+1, wide, nil, "", api.ErrForm)
			for _, many := range far {
				checkTakeRow(t, b, many, wide, nil, "", api.ErrForm)
			}
		}
	}
}

// P2.3: one number of a row, at any place of it, that doesn't fit leaves nothing; one behind it harms nothing.
func TestTakeRowOneUnfit(t *testing.T) {
	for _, n := range []uint64{1<<62 + 1, 1<<63 - 1, 1 << 63, 1<<64 - 1} {
		for at := range 5 {
			var b []byte
			for i := range 5 {
				x := uint64(i)
				if i == at {
					x = n
				}
				b = binary.BigEndian.AppendUint64(b, x)
			}
			for many := range 6 {
				if many > at {
					checkTakeRow(t, string(b), many, 8, nil, "", api.ErrForm)
				} else {
					checkTakeRow(t, string(b), many, 8, []int{0, 1, 2, 3, 4}[:many], string(b[8*many:]), api.OK)
				}
			}
		}
	}
}

// P2.3: no width, or many below 0, is told ahead of what the bytes are, also of a row of no numbers.
func TestTakeRowArg(t *testing.T) {
	for _, b := range []string{"", "\x00", "\xff\xff\xff\xff\xff\xff\xff\xff\xff", string(make([]byte, 300))} {
		for _, wide := range noWidths {
			for _, many := range []int{math.MinInt, -1, 0, 1, 2, 1 << 61, math.MaxInt} {
				checkTakeRow(t, b, many, wide, nil, "", api.ErrArg)
			}
		}
		for wide := range tops {
			for _, many := range []int{-1, -2, -1 << 61, -1 << 62, math.MinInt, math.MinInt + 1} {
				checkTakeRow(t, b, many, wide, nil, "", api.ErrArg)
			}
		}
	}
}

// P2.3: a row is taken as by Take, so many times, of what is left.
func TestTakeRowAsTake(t *testing.T) {
	for wide := range tops {
		b := PutRow(fitting(wide), wide)
		b = append(b, "\xff\xff\xff\xff\xff\xff\xff\xff\xff"[:wide+1]...)
		var want []int
		rest, code := b, api.OK
		for many := 0; many < len(b)/wide+3; many++ {
			l, r, e := TakeRow(b, many, wide)
			if code != api.OK {
				if len(l) != 0 || len(r) != 0 || e != code {
					t.Fatalf("many %d in %d: %d, %x, %d, want code %d", many, wide, l, r, e, code)
				}
				continue
			}
			if !slices.Equal(l, want) || !bytes.Equal(r, rest) || e != api.OK {
				t.Fatalf("many %d in %d: %d, %x, %d", many, wide, l, r, e)
			}
			var n int
			n, rest, code = Take(rest, wide)
			want = append(want, n)
		}
	}
}

// P2.4: what is put is taken, with whatever stands behind it.
func TestPutIsTaken(t *testing.T) {
	for wide := range tops {
		for _, tail := range tails {
			for _, n := range fitting(wide) {
				checkTake(t, string(Put(n, wide))+tail, wide, n, tail, api.OK)
			}
			for many := range 8 {
				l := fitting(wide)[:many]
				checkTakeRow(t, string(PutRow(l, wide))+tail, many, wide, l, tail, api.OK)
			}
			l := fitting(wide)
			checkTakeRow(t, string(PutRow(l, wide))+tail, len(l), wide, l, tail, api.OK)
		}
	}
}

// P2.4: bytes that are a number are what that number is put as, so that it has no other bytes.
func TestPutInOneWay(t *testing.T) {
	for x := range 1 << 16 {
		two := []byte{byte(x >> 8), byte(x)}
		n, _, code := Take(two, 2)
		if code != api.OK || n != x || !bytes.Equal(Put(n, 2), two) {
			t.Fatalf("%x: %d, %d", two, n, code)
		}
		n, rest, code := Take(two, 1)
		if code != api.OK || n != x>>8 || !bytes.Equal(append(Put(n, 1), rest...), two) {
			t.Fatalf("%x in 1: %d, %d", two, n, code)
		}
	}
	for at := range 8 {
		for x := range 256 {
			b := bytes.Repeat([]byte{0x15}, 8)
			b[at] = byte(x)
			n, _, code := Take(b, 8)
			fits := at > 0 || x < 0x40
			if fits != (code == api.OK) || fits && !bytes.Equal(Put(n, 8), b) {
				t.Errorf("%x: %d, %d", b, n, code)
			}
		}
	}
}

// P2.2, P2.3, R3: what is handed in is not written into, nor what lies behind it.
func TestArgumentsStay(t *testing.T) {
	text := "\x01\x02\x03\x04\x05\x06\x07\x08\x09\x0a\x0b\x0c\x0d\x0e\x0f\x10\x11\x12"
	row := []int{1, 2, 300, 70000, -1}
	for _, wide := range []int{1, 2, 8, 0, 3, -1} {
		whole := []byte(text)
		for n := range len(whole) {
			Take(whole[:n], wide)
			for many := -1; many < 20; many++ {
				TakeRow(whole[:n], many, wide)
			}
		}
		if string(whole) != text {
			t.Errorf("bytes written into in %d: %x", wide, whole)
		}
		l := slices.Clone(row)
		for n := range len(l) + 1 {
			PutRow(l[:n], wide)
		}
		if !slices.Equal(l, row) {
			t.Errorf("row written into in %d: %d", wide, l)
		}
	}
}

// P2.1 to P2.3, R3: what comes out is nobody else's memory.
func TestAnswersAreNew(t *testing.T) {
	text := "\x01\x02\x03\x04\x05\x06\x07\x08\x09\x0a\x0b\x0c"
	for wide := range tops {
		in := []byte(text)
		_, a, _ := Take(in[:10], wide)
		_, b, _ := TakeRow(in[:10], 1, wide)
		_, c, _ := TakeRow(in[:10], 0, wide)
		for _, out := range [][]byte{a, b, c} {
			for i := range out {
				out[i] = 'x'
			}
			_ = append(out, 'x')
		}
		if string(in) != text {
			t.Errorf("what is left in %d shares memory with what was given: %x", wide, in)
		}
		one := Put(7, wide)
		clear(one[:cap(one)])
		l, _, _ := TakeRow(in, 1, wide)
		clear(l[:cap(l)])
		if got := Put(7, wide); !bytes.Equal(got, bytesOf(7, wide)) {
			t.Errorf("Put in %d gave out memory that it keeps: %x", wide, got)
		}
		if l, _, _ := TakeRow(in, 1, wide); !bytes.Equal(PutRow(l, wide), in[:wide]) {
			t.Errorf("TakeRow in %d gave out memory that it keeps: %d", wide, l)
		}
	}
}
