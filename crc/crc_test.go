package crc

import (
	"bytes"
	"hash/crc32"
	"math"
	"testing"

	"precentor/api"
)

// sample is n bytes of no plain pattern, the same at every run.
func sample(n int, seed uint32) []byte {
	b := make([]byte, n)
	for i := range b {
		seed = seed*1664525 + 1013904223
		b[i] = byte(seed >> 24)
	}
	return b
}

// samples are bytes of many lengths, among them none, all zero and all one.
func samples() [][]byte {
	l := [][]byte{nil, {}, {0}, {0xff}, {0, 0, 0, 0}, {0xff, 0xff, 0xff, 0xff}, make([]byte, 33), bytes.Repeat([]byte{0xff}, 33)}
	for n := range 24 {
		l = append(l, sample(n, uint32(n)+7))
	}
	return append(l, sample(1024, 1), sample(70000, 2))
}

// P1.1: sums that are known.
func TestSumKnown(t *testing.T) {
	for _, x := range []struct {
		s    string
		want uint32
	}{
		{"", 0},
		{"\x00", 0xd202ef8d},
		{"\x00\x00\x00\x00", 0x2144df1c},
		{"\xff\xff\xff\xff", 0xffffffff},
		{"a", 0xe8b7be43},
		{"abc", 0x352441c2},
		{"123456789", 0xcbf43926},
		{"The quick brown fox jumps over the lazy dog", 0x414fa339},
	} {
		if got := Sum([]byte(x.s)); got != x.want {
			t.Errorf("Sum(%q) = %08x, want %08x", x.s, got, x.want)
		}
	}
	if got := Sum(nil); got != 0 {
		t.Errorf("Sum(nil) = %08x, want 0", got)
	}
}

// P1.1: the sum is the one of the library at any bytes.
func TestSumAsLibrary(t *testing.T) {
	for i := range 256 {
		b := []byte{byte(i)}
		if got, want := Sum(b), crc32.ChecksumIEEE(b); got != want {
			t.Errorf("Sum(%x) = %08x, want %08x", b, got, want)
		}
	}
	for _, b := range samples() {
		if got, want := Sum(b), crc32.ChecksumIEEE(b); got != want {
			t.Errorf("Sum of %d bytes = %08x, want %08x", len(b), got, want)
		}
	}
}

// P1.1: what is sealed is the bytes and their sum, the lowest byte first.
func TestSeal(t *testing.T) {
	if got, want := Seal([]byte("123456789")), []byte("123456789\x26\x39\xf4\xcb"); !bytes.Equal(got, want) {
		t.Errorf("Seal = %x, want %x", got, want)
	}
	if got := Seal(nil); !bytes.Equal(got, []byte{0, 0, 0, 0}) {
		t.Errorf("Seal(nil) = %x", got)
	}
	for _, b := range samples() {
		s := crc32.ChecksumIEEE(b)
		want := append(bytes.Clone(b), byte(s), byte(s>>8), byte(s>>16), byte(s>>24))
		if got := Seal(b); !bytes.Equal(got, want) {
			t.Errorf("Seal of %d bytes: wrong tail or bytes", len(b))
		}
	}
}

// P1.2: bytes whose last four are the sum's, and such where they aren't.
func TestOpen(t *testing.T) {
	for _, x := range []struct {
		in   string
		want string
		code api.Errno
	}{
		{"\x00\x00\x00\x00", "", api.OK},
		{"123456789\x26\x39\xf4\xcb", "123456789", api.OK},
		{"\xff\xff\xff\xff\xff\xff\xff\xff", "\xff\xff\xff\xff", api.OK},
		{"123456789\xcb\xf4\x39\x26", "", api.ErrSum},
		{"123456788\x26\x39\xf4\xcb", "", api.ErrSum},
		{"123456789\x26\x39\xf4\xcb\x00", "", api.ErrSum},
		{"123456789\x26\x39\xf4", "", api.ErrSum},
		{"123456789", "", api.ErrSum},
		{"\x00\x00\x00\x01", "", api.ErrSum},
		{"\x01\x00\x00\x00", "", api.ErrSum},
		{"\x00\x00\x00\x00\x00", "", api.ErrSum},
		{"", "", api.ErrForm},
		{"\x00", "", api.ErrForm},
		{"\x00\x00", "", api.ErrForm},
		{"\x00\x00\x00", "", api.ErrForm},
		{"abc", "", api.ErrForm},
	} {
		got, code := Open([]byte(x.in))
		if string(got) != x.want || code != x.code {
			t.Errorf("Open(%x) = %x, %d, want %x, %d", x.in, got, code, x.want, x.code)
		}
	}
	if got, code := Open(nil); len(got) != 0 || code != api.ErrForm {
		t.Errorf("Open(nil) = %x, %d", got, code)
	}
}

// P1.3: which bytes are turned, and by what.
func TestSpoil(t *testing.T) {
	for _, x := range []struct {
		b    string
		at   int
		by   string
		want string
	}{
		{"abcdef", 0, "\x01\x02\x03\x04", "````ef"},
		{"abcdef", 1, "\x01\x02\x03\x04", "acagaf"},
		{"abcdef", 2, "\x01\x02\x03\x04", "abbffb"},
		{"abcdef", 0, "\x01\x02\x03\x04\x05\x06", "````ef"},
		{"abcdef", 1, "\x01\x02\x03", "acagef"},
		{"abcdef", 1, "\x01", "accdef"},
		{"abcdef", 1, "", "abcdef"},
		{"abcdef", 1, "\x00\x00\x00\x00", "abcdef"},
		{"abcdef", 3, "\x01\x02\x03\x04", "abcege"},
		{"abcdef", 4, "\x01\x02\x03\x04", "abcddd"},
		{"abcdef", 5, "\x01\x02\x03\x04", "abcdeg"},
		{"abcdef", 6, "\x01\x02\x03\x04", "abcdef"},
		{"abcdef", 7, "\x01\x02\x03\x04", "abcdef"},
		{"abcdef", math.MaxInt, "\x01\x02\x03\x04", "abcdef"},
		{"abcdef", math.MaxInt - 3, "\x01\x02\x03\x04", "abcdef"},
		{"abcdef", -1, "\x01\x02\x03\x04", "abcdef"},
		{"abcdef", -3, "\x01\x02\x03\x04", "abcdef"},
		{"abcdef", math.MinInt, "\x01\x02\x03\x04", "abcdef"},
		{"abcd", 0, "\xff\xff\xff\xff\xff", "\x9e\x9d\x9c\x9b"},
		{"ab", 0, "\x01\x01\x01\x01", "`c"},
		{"", 0, "\x01\x02\x03\x04", ""},
		{"", -1, "\x01", ""},
	} {
		if got := Spoil([]byte(x.b), x.at, []byte(x.by)); string(got) != x.want {
			t.Errorf("Spoil(%q, %d, %x) = %q, want %q", x.b, x.at, x.by, got, x.want)
		}
	}
	if got := Spoil(nil, 0, nil); len(got) != 0 {
		t.Errorf("Spoil(nil, 0, nil) = %x", got)
	}
	if got := Spoil([]byte("a"), 0, nil); string(got) != "a" {
		t.Errorf("Spoil of no bytes to spoil by = %q", got)
	}
}

// P1.3: what is spoilt twice by the same is as it was.
func TestSpoilTwice(t *testing.T) {
	b := sample(40, 3)
	for at := -2; at < len(b)+2; at++ {
		by := sample(4, uint32(at+9))
		if got := Spoil(Spoil(b, at, by), at, by); !bytes.Equal(got, b) {
			t.Errorf("at %d: %x", at, got)
		}
	}
}

// P1.4: what is sealed is opened.
func TestSealedIsOpened(t *testing.T) {
	for _, b := range samples() {
		if got, code := Open(Seal(b)); code != api.OK || !bytes.Equal(got, b) {
			t.Errorf("%d bytes: %d", len(b), code)
		}
		// What is sealed may be sealed again.
		inner, code := Open(Seal(Seal(b)))
		if code != api.OK || !bytes.Equal(inner, Seal(b)) {
			t.Errorf("%d bytes, sealed twice: %d", len(b), code)
		}
	}
}

// checkSpoilt: a sealed thing that is changed at one place isn't opened, one that isn't changed is.
func checkSpoilt(t *testing.T, sealed []byte, at int, by []byte) {
	t.Helper()
	s := Spoil(sealed, at, by)
	got, code := Open(s)
	if bytes.Equal(s, sealed) {
		if code != api.OK || !bytes.Equal(got, sealed[:len(sealed)-4]) {
			t.Fatalf("unchanged at %d by %x: %d", at, by, code)
		}
		return
	}
	if code != api.ErrSum || len(got) != 0 {
		t.Fatalf("%x spoilt at %d by %x: %x, %d", sealed, at, by, got, code)
	}
}

// P1.4: what is spoilt at one place isn't opened, also over the seam of the bytes and their sum.
func TestSpoiltIsFound(t *testing.T) {
	bys := [][]byte{nil, {0, 0, 0, 0}, {1}, {0, 0, 0, 1}, {1, 0, 0, 128}, {128, 0, 0, 1}, {255, 255, 255, 255}, {0x20, 0x83, 0xb8, 0xed}, {0xed, 0xb8, 0x83, 0x20}, {0, 0, 0, 0, 1}}
	for bit := range 32 {
		by := make([]byte, 4)
		by[bit/8] = 1 << (bit % 8)
		bys = append(bys, by)
	}
	for i := range 400 {
		bys = append(bys, sample(4, uint32(i)*2654435761+5))
	}
	for n := range 13 {
		sealed := Seal(sample(n, uint32(n)))
		for at := -5; at < len(sealed)+5; at++ {
			for _, by := range bys {
				checkSpoilt(t, sealed, at, by)
			}
		}
	}
}

// P1.4: each change of two bytes side by side, over the seam.
func TestSpoiltSeamWhole(t *testing.T) {
	sealed := Seal([]byte("seam"))
	for x := range 1 << 16 {
		checkSpoilt(t, sealed, 3, []byte{byte(x), byte(x >> 8)})
	}
}

// P1.1 to P1.3, R3: what is handed in is not written into, nor what lies behind it.
func TestArgumentsStay(t *testing.T) {
	whole := []byte("abcdefghijkl")
	b := whole[:4]
	by := []byte{1, 2, 3, 4, 5}
	Sum(b)
	Seal(b)
	Open(b)
	for at := -1; at < 6; at++ {
		Spoil(b, at, by)
	}
	if string(whole) != "abcdefghijkl" || !bytes.Equal(by, []byte{1, 2, 3, 4, 5}) {
		t.Errorf("written into: %q %x", whole, by)
	}
	sealed := Seal(b)
	keep := bytes.Clone(sealed)
	if Open(sealed); !bytes.Equal(sealed, keep) {
		t.Errorf("Open wrote into what it was given: %x", sealed)
	}
}

// P1.1 to P1.3, R3: what comes out is nobody else's memory.
func TestAnswersAreNew(t *testing.T) {
	sealed := Seal([]byte("abcd"))
	in := []byte("abcd")
	for name, out := range map[string][]byte{
		"Seal":            Seal(in),
		"Spoil":           Spoil(in, 0, []byte{1}),
		"Spoil below 0":   Spoil(in, -1, []byte{1}),
		"Spoil behind it": Spoil(in, 4, []byte{1}),
	} {
		for i := range out {
			out[i] = 'x'
		}
		_ = append(out, 'x')
		if string(in) != "abcd" {
			t.Errorf("%s shares memory with what it was given", name)
		}
	}
	opened, _ := Open(sealed)
	for i := range opened {
		opened[i] = 'x'
	}
	_ = append(opened, 'x')
	if got, code := Open(sealed); string(got) != "abcd" || code != api.OK {
		t.Errorf("Open shares memory with what it was given: %q, %d", got, code)
	}
}
