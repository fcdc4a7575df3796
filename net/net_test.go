package net

import (
	"bytes"
	"fmt"
	"math"
	"slices"
	"testing"

	"precentor/api"
	"precentor/crc"
)

// members are such of a group, and such as no group has.
var members = []int{0, 1, 2, 62, 63, 64, 65, 1000, -1, -2, -63, -64, math.MaxInt, math.MinInt}

// bodies are bytes of letters, none among them.
var bodies = [][]byte{nil, {}, {0}, {1}, {0xff}, []byte("ab"), []byte("abcd"), []byte("abcde"), []byte("a letter of some bytes"), make([]byte, 9), bytes.Repeat([]byte{0xa5}, 1024)}

// to is a letter that isn't spoilt.
func to(member int, b string) api.Letter {
	return api.Letter{To: member, B: []byte(b)}
}

// bad is a letter that is spoilt.
func bad(member int, b string) api.Letter {
	return api.Letter{To: member, B: []byte(b), Spoilt: true}
}

// alike holds letters against each other by another way than Same: each one as a text.
func alike(a, b []api.Letter) bool {
	return fmt.Sprintf("%d%v", len(a), told(a)) == fmt.Sprintf("%d%v", len(b), told(b))
}

// told are letters as texts.
func told(l []api.Letter) []string {
	var out []string
	for _, x := range l {
		out = append(out, fmt.Sprintf("(%d %x %t)", x.To, x.B, x.Spoilt))
	}
	return out
}

// row is letters, each with bytes of its own.
func row(l ...api.Letter) []api.Letter {
	out := make([]api.Letter, 0, len(l))
	for _, x := range l {
		x.B = bytes.Clone(x.B)
		out = append(out, x)
	}
	return out
}

// rows are rows of letters of many kinds: none, one, several, to one member and to many, spoilt and not, alike and not.
func rows() [][]api.Letter {
	l := [][]api.Letter{
		nil,
		{},
		{{}},
		{{B: []byte{}}},
		{{Spoilt: true}},
		{to(1, "a")},
		{bad(1, "a")},
		{to(1, "a"), to(1, "a")},
		{to(0, "ab"), to(1, ""), to(0, "cdefg")},
		{to(0, "ab"), bad(1, "xy"), to(2, "cdefg"), bad(0, ""), to(1, "h")},
		{to(-1, "below"), to(64, "above"), to(math.MaxInt, "greatest"), to(math.MinInt, "least")},
	}
	var long []api.Letter
	for i := range 40 {
		long = append(long, api.Letter{To: i % 7, B: bytes.Repeat([]byte{byte(i)}, i%11), Spoilt: i%5 == 0})
	}
	return append(l, long)
}

// outside are places that a row of so many letters has not.
func outside(many int) []int {
	return []int{-1, -2, -many - 1, math.MinInt, math.MinInt + 1, many, many + 1, 1 << 32, 1 << 62, math.MaxInt - 1, math.MaxInt}
}

// P5.1: rows are the same as themselves and as others with the same letters.
func TestSame(t *testing.T) {
	all := rows()
	for i, a := range all {
		for j, b := range all {
			if got, want := Same(a, row(b...)), alike(a, b); got != want {
				t.Errorf("rows %d and %d: %t", i, j, got)
			}
		}
		if !Same(a, a) || !Same(a, row(a...)) || !Same(row(a...), a) {
			t.Errorf("row %d isn't the same as itself", i)
		}
	}
}

// P5.1: no letters are no letters, and no bytes no bytes.
func TestSameOfNothing(t *testing.T) {
	for _, x := range []struct {
		a, b []api.Letter
		want bool
	}{
		{nil, nil, true},
		{nil, []api.Letter{}, true},
		{[]api.Letter{}, nil, true},
		{nil, make([]api.Letter, 0, 4), true},
		{[]api.Letter{{To: 1}}, []api.Letter{{To: 1, B: []byte{}}}, true},
		{[]api.Letter{{To: 1, B: make([]byte, 0, 4)}}, []api.Letter{{To: 1}}, true},
		{nil, []api.Letter{{}}, false},
		{[]api.Letter{{}}, nil, false},
		{[]api.Letter{{}}, []api.Letter{{}, {}}, false},
		{[]api.Letter{{B: []byte{0}}}, []api.Letter{{}}, false},
		{[]api.Letter{{}}, []api.Letter{{B: []byte{0}}}, false},
	} {
		if got := Same(x.a, x.b); got != x.want {
			t.Errorf("Same(%v, %v) = %t", x.a, x.b, got)
		}
	}
}

// P5.1: rows that differ in one thing alone are not the same, wherever that is.
func TestSameButForOne(t *testing.T) {
	base := row(to(3, "abc"), bad(3, "abd"), to(0, ""), to(63, "x"), bad(1, "yz"))
	for at := range base {
		for name, turn := range map[string]func(*api.Letter){
			"a member above":  func(x *api.Letter) { x.To++ },
			"a member below":  func(x *api.Letter) { x.To-- },
			"a member far on": func(x *api.Letter) { x.To += 1 << 32 },
			"spoilt or not":   func(x *api.Letter) { x.Spoilt = !x.Spoilt },
			"a byte more":     func(x *api.Letter) { x.B = append(x.B, 0) },
			"other bytes":     func(x *api.Letter) { x.B = append([]byte{1}, x.B...) },
		} {
			other := row(base...)
			turn(&other[at])
			differ(t, base, other, fmt.Sprintf("%s at %d", name, at))
		}
		for i := range base[at].B {
			other := row(base...)
			other[at].B[i] ^= 0x80
			differ(t, base, other, fmt.Sprintf("byte %d of %d", i, at))
			other = row(base...)
			other[at].B = other[at].B[:i]
			differ(t, base, other, fmt.Sprintf("only %d bytes of %d", i, at))
		}
		differ(t, base, base[:at], fmt.Sprintf("only %d letters", at))
		differ(t, base, slices.Delete(row(base...), at, at+1), fmt.Sprintf("without %d", at))
		differ(t, base, append(row(base...), base[at]), fmt.Sprintf("%d once more", at))
		other := row(base...)
		other[at], other[(at+1)%len(other)] = other[(at+1)%len(other)], other[at]
		differ(t, base, other, fmt.Sprintf("%d and the next one the other way about", at))
	}
}

// differ: two rows are not the same, either way about.
func differ(t *testing.T, a, b []api.Letter, how string) {
	t.Helper()
	if Same(a, b) || Same(b, a) {
		t.Errorf("the same, but for: %s", how)
	}
}

// P5.1: what is put is behind the others, as it is handed in, and not spoilt.
func TestPut(t *testing.T) {
	for i, l := range rows() {
		for _, member := range members {
			for _, b := range bodies {
				want := append(row(l...), api.Letter{To: member, B: b})
				if got := Put(l, member, b); !alike(got, want) {
					t.Errorf("row %d, to %d, %x: %v", i, member, b, told(got))
				}
			}
		}
	}
}

// P5.1: all letters to a member are told in order, and no others.
func TestAll(t *testing.T) {
	l := row(to(0, "a"), to(1, "b"), bad(0, "c"), to(2, ""), to(0, "a"), bad(63, "d"), to(64, "e"), to(-1, "f"), to(-1, ""), to(math.MaxInt, "g"), to(math.MinInt, "h"))
	for _, x := range []struct {
		member int
		want   []api.Letter
	}{
		{0, row(to(0, "a"), bad(0, "c"), to(0, "a"))},
		{1, row(to(1, "b"))},
		{2, row(to(2, ""))},
		{3, nil},
		{62, nil},
		{63, row(bad(63, "d"))},
		{64, row(to(64, "e"))},
		{65, nil},
		{-1, row(to(-1, "f"), to(-1, ""))},
		{-2, nil},
		{1 << 32, nil},
		{math.MaxInt, row(to(math.MaxInt, "g"))},
		{math.MinInt, row(to(math.MinInt, "h"))},
	} {
		if got := All(l, x.member); !alike(got, x.want) {
			t.Errorf("All to %d: %v, want %v", x.member, told(got), told(x.want))
		}
	}
	for _, member := range members {
		if got := All(nil, member); len(got) != 0 {
			t.Errorf("All of none, to %d: %v", member, told(got))
		}
	}
}

// P5.1: the letters to each member are, together, all letters.
func TestAllTogether(t *testing.T) {
	for i, l := range rows() {
		many := 0
		seen := map[int]bool{}
		for _, x := range l {
			if !seen[x.To] {
				seen[x.To] = true
				many += len(All(l, x.To))
			}
		}
		if many != len(l) {
			t.Errorf("row %d: %d of %d letters", i, many, len(l))
		}
	}
}

// P5.2: a letter at each place is given, dropped and doubled.
func TestPlaces(t *testing.T) {
	for i, l := range rows() {
		for at := range l {
			left := slices.Delete(row(l...), at, at+1)
			x, given, code := Give(l, at)
			if code != api.OK || !alike([]api.Letter{x}, l[at:at+1]) || !alike(given, left) {
				t.Errorf("row %d: Give at %d: %v, %v, %d", i, at, x, told(given), code)
			}
			if dropped, code := Drop(l, at); code != api.OK || !alike(dropped, left) {
				t.Errorf("row %d: Drop at %d: %v, %d", i, at, told(dropped), code)
			}
			if twice, code := Dup(l, at); code != api.OK || !alike(twice, append(row(l...), l[at])) {
				t.Errorf("row %d: Dup at %d: %v, %d", i, at, told(twice), code)
			}
		}
	}
}

// P5.2, P5.3: a place that isn't there is told, with the row as it was, and no letter.
func TestNoSuchPlace(t *testing.T) {
	for i, l := range rows() {
		for _, at := range outside(len(l)) {
			x, given, code := Give(l, at)
			if code != api.ErrNone || !alike(given, l) || x.To != 0 || len(x.B) != 0 || x.Spoilt {
				t.Errorf("row %d: Give at %d: %v, %v, %d", i, at, x, told(given), code)
			}
			if got, code := Drop(l, at); code != api.ErrNone || !alike(got, l) {
				t.Errorf("row %d: Drop at %d: %v, %d", i, at, told(got), code)
			}
			if got, code := Dup(l, at); code != api.ErrNone || !alike(got, l) {
				t.Errorf("row %d: Dup at %d: %v, %d", i, at, told(got), code)
			}
			for _, by := range [][]byte{nil, {1}, {1, 2, 3, 4, 5}} {
				for _, from := range []int{-1, 0, 1, math.MaxInt, math.MinInt} {
					if got, code := Spoil(l, at, from, by); code != api.ErrNone || !alike(got, l) {
						t.Errorf("row %d: Spoil of %d at %d: %v, %d", i, at, from, told(got), code)
					}
				}
			}
		}
	}
}

// P5.2: what is doubled and dropped again is as it was; and the first of two dropped, the other one is left.
func TestDoubledAndDropped(t *testing.T) {
	for i, l := range rows() {
		for at := range l {
			twice, _ := Dup(l, at)
			if back, code := Drop(twice, len(l)); code != api.OK || !alike(back, l) {
				t.Errorf("row %d: doubled at %d and dropped: %v, %d", i, at, told(back), code)
			}
			want := append(slices.Delete(row(l...), at, at+1), l[at])
			if left, code := Drop(twice, at); code != api.OK || !alike(left, want) {
				t.Errorf("row %d: doubled at %d, the first one dropped: %v, %d", i, at, told(left), code)
			}
		}
	}
	l := Put(nil, 1, []byte("ab"))
	l, _ = Dup(l, 0)
	if l, code := Drop(l, 0); code != api.OK || !alike(l, row(to(1, "ab"))) {
		t.Errorf("%v, %d", told(l), code)
	}
}

// P5.3: which bytes are turned, and whether the letter is spoilt then.
func TestSpoil(t *testing.T) {
	for _, x := range []struct {
		b    string
		at   int
		by   string
		want api.Letter
	}{
		{"abcdef", 0, "\x01\x02\x03\x04", bad(1, "````ef")},
		{"abcdef", 1, "\x01\x02\x03\x04", bad(1, "acagaf")},
		{"abcdef", 2, "\x01\x02\x03\x04", bad(1, "abbffb")},
		{"abcdef", 0, "\x01\x02\x03\x04\x05\x06", bad(1, "````ef")},
		{"abcdef", 0, "\x00\x00\x00\x00\x05", to(1, "abcdef")},
		{"abcdef", 1, "\x01", bad(1, "accdef")},
		{"abcdef", 1, "\x01\x02", bad(1, "acadef")},
		{"abcdef", 1, "\x01\x02\x03", bad(1, "acagef")},
		{"abcdef", 1, "\x00\x00\x00\x04", bad(1, "abcdaf")},
		{"abcdef", 1, "", to(1, "abcdef")},
		{"abcdef", 1, "\x00", to(1, "abcdef")},
		{"abcdef", 1, "\x00\x00\x00\x00", to(1, "abcdef")},
		{"abcdef", 3, "\x01\x02\x03\x04", bad(1, "abcege")},
		{"abcdef", 5, "\x01\x02\x03\x04", bad(1, "abcdeg")},
		{"abcdef", 5, "\x00\x02\x03\x04", to(1, "abcdef")},
		{"abcdef", 6, "\x01\x02\x03\x04", to(1, "abcdef")},
		{"abcdef", 7, "\x01\x02\x03\x04", to(1, "abcdef")},
		{"abcdef", math.MaxInt, "\x01\x02\x03\x04", to(1, "abcdef")},
		{"abcdef", math.MaxInt - 3, "\x01\x02\x03\x04", to(1, "abcdef")},
		{"abcdef", -1, "\x01\x02\x03\x04", to(1, "abcdef")},
		{"abcdef", -3, "\x01\x02\x03\x04", to(1, "abcdef")},
		{"abcdef", math.MinInt, "\x01\x02\x03\x04", to(1, "abcdef")},
		{"a", 0, "\x01", bad(1, "`")},
		{"a", 0, "\x01\xff\xff\xff", bad(1, "`")},
		{"a", 1, "\x01", to(1, "a")},
		{"", 0, "\x01\x02\x03\x04", to(1, "")},
		{"", -1, "\x01", to(1, "")},
		{"", 0, "", to(1, "")},
	} {
		// The letter stands alone, and ahead of, between and behind others.
		others := row(to(1, x.b), to(0, "others"), bad(1, "here"))
		for place := range len(others) + 1 {
			l := slices.Insert(row(others...), place, to(1, x.b))
			want := slices.Insert(row(others...), place, x.want)
			if got, code := Spoil(l, place, x.at, []byte(x.by)); code != api.OK || !alike(got, want) {
				t.Errorf("%q at %d by %x, place %d: %v, %d", x.b, x.at, x.by, place, told(got), code)
			}
		}
		if got, code := Spoil(row(to(1, x.b)), 0, x.at, []byte(x.by)); code != api.OK || !alike(got, row(x.want)) {
			t.Errorf("%q at %d by %x: %v, %d", x.b, x.at, x.by, told(got), code)
		}
	}
}

// P5.3: the bytes are chapter 1's, wherever they are turned.
func TestSpoilAsSums(t *testing.T) {
	for _, b := range bodies[:len(bodies)-1] {
		for at := -2; at < len(b)+3; at++ {
			for _, by := range [][]byte{nil, {}, {0}, {7}, {0, 7}, {1, 2, 3}, {0xff, 0, 0, 0xff}, {0, 0, 0, 1}, {9, 8, 7, 6, 5}, {0, 0, 0, 0, 5}} {
				want := api.Letter{To: 5, B: crc.Spoil(b, at, by)}
				want.Spoilt = !bytes.Equal(want.B, b)
				if got, code := Spoil(Put(nil, 5, b), 0, at, by); code != api.OK || !alike(got, row(want)) {
					t.Errorf("%x at %d by %x: %v, %d", b, at, by, told(got), code)
				}
			}
		}
	}
}

// P5.3: what is spoilt already stays as it is, whatever it is spoilt by; its double too, but not one that was doubled ahead of it.
func TestSpoiltStays(t *testing.T) {
	l := row(to(2, "abcdef"), to(2, "abcdef"))
	once, _ := Spoil(l, 0, 1, []byte{1, 2})
	if !alike(once, row(bad(2, "acadef"), to(2, "abcdef"))) {
		t.Fatal(told(once))
	}
	twice, _ := Dup(once, 0)
	for at := -1; at < 8; at++ {
		for _, by := range [][]byte{nil, {0}, {1}, {1, 2}, {1, 2, 3, 4}, {0xff, 0xff, 0xff, 0xff, 0xff}} {
			for _, place := range []int{0, 2} {
				if got, code := Spoil(twice, place, at, by); code != api.OK || !alike(got, twice) {
					t.Errorf("place %d at %d by %x: %v, %d", place, at, by, told(got), code)
				}
			}
		}
	}
	got, code := Spoil(twice, 1, 5, []byte{1})
	if want := row(bad(2, "acadef"), bad(2, "abcdeg"), bad(2, "acadef")); code != api.OK || !alike(got, want) {
		t.Errorf("%v, %d", told(got), code)
	}
	if got, code := Spoil(row(bad(1, "")), 0, 0, []byte{1}); code != api.OK || !alike(got, row(bad(1, ""))) {
		t.Errorf("no bytes, spoilt: %v, %d", told(got), code)
	}
}

// P5.4: what is put is given, from either end, as it was put.
func TestPutIsGiven(t *testing.T) {
	var l, want []api.Letter
	for _, member := range members {
		for _, b := range bodies {
			l = Put(l, member, b)
			want = append(want, api.Letter{To: member, B: b})
		}
	}
	for first := l; len(first) > 0; {
		x, left, code := Give(first, 0)
		place := len(want) - len(first)
		if code != api.OK || !alike([]api.Letter{x}, want[place:place+1]) || !alike(left, want[place+1:]) {
			t.Fatalf("from the beginning, %d: %v, %d", place, x, code)
		}
		first = left
	}
	for last := l; len(last) > 0; {
		x, left, code := Give(last, len(last)-1)
		if code != api.OK || !alike([]api.Letter{x}, want[len(left):len(left)+1]) || !alike(left, want[:len(left)]) {
			t.Fatalf("from the end, %d: %v, %d", len(left), x, code)
		}
		last = left
	}
}

// dice is numbers of no plain pattern, the same at every run.
type dice uint64

// roll is a number from 0 to one below a bound.
func (d *dice) roll(bound int) int {
	*d = *d*6364136223846793005 + 1442695040888963407
	return int((uint64(*d) >> 33) % uint64(bound))
}

// fair: is a letter as it was put, or, if it is spoilt, different from that in up to four bytes in a row?
func fair(x, put api.Letter) bool {
	if x.To != put.To || len(x.B) != len(put.B) {
		return false
	}
	var turned []int
	for i := range x.B {
		if x.B[i] != put.B[i] {
			turned = append(turned, i)
		}
	}
	if len(turned) == 0 {
		return !x.Spoilt
	}
	return x.Spoilt && turned[len(turned)-1]-turned[0] < 4
}

// P5.4: through many choices each letter in the row is one that was put, fair, and at the place where it belongs.
func TestManyChoices(t *testing.T) {
	spoils := 0
	for seed := range 60 {
		d := dice(seed)
		var l, put []api.Letter
		for step := range 300 {
			i := d.roll(len(l) + 1)
			code, want := api.OK, api.OK
			if i == len(l) {
				want = api.ErrNone
			}
			switch d.roll(6) {
			case 0, 1:
				b := make([]byte, d.roll(12))
				for k := range b {
					b[k] = byte(d.roll(256))
				}
				x := api.Letter{To: d.roll(5), B: b}
				l, put, want = Put(l, x.To, b), append(put, x), api.OK
			case 2:
				var x api.Letter
				x, l, code = Give(l, i)
				if code == api.OK {
					if !fair(x, put[i]) {
						t.Fatalf("seed %d, step %d: %v was put as %v", seed, step, x, put[i])
					}
					put = slices.Delete(put, i, i+1)
				}
			case 3:
				if l, code = Drop(l, i); code == api.OK {
					put = slices.Delete(put, i, i+1)
				}
			case 4:
				if l, code = Dup(l, i); code == api.OK {
					put = append(put, put[i])
				}
			case 5:
				by := make([]byte, d.roll(7))
				for k := range by {
					by[k] = byte(d.roll(3))
				}
				l, code = Spoil(l, i, d.roll(16)-2, by)
			}
			if code != want || !slices.EqualFunc(l, put, fair) {
				t.Fatalf("seed %d, step %d: %v were put as %v, %d", seed, step, told(l), told(put), code)
			}
			for _, x := range l {
				if x.Spoilt {
					spoils++
				}
			}
		}
	}
	if spoils == 0 {
		t.Error("nothing was ever spoilt")
	}
}

// answer is what a call gives back: a row, and perhaps a letter.
type answer struct {
	row    []api.Letter
	letter *api.Letter
}

// parts are the lists of an answer: the row itself apart, the bytes of each letter.
func (a answer) parts() [][]byte {
	var out [][]byte
	for _, x := range a.row {
		out = append(out, x.B)
	}
	if a.letter != nil {
		out = append(out, a.letter.B)
	}
	return out
}

// calls are all calls that give letters back, at places that are there and such that aren't.
func calls(l []api.Letter, b []byte) map[string]answer {
	out := map[string]answer{"Put": {row: Put(l, 1, b)}}
	for to := range 3 {
		out[fmt.Sprint("All ", to)] = answer{row: All(l, to)}
	}
	for i := -1; i <= len(l); i++ {
		x, left, _ := Give(l, i)
		out[fmt.Sprint("Give ", i)] = answer{left, &x}
		dropped, _ := Drop(l, i)
		out[fmt.Sprint("Drop ", i)] = answer{row: dropped}
		twice, _ := Dup(l, i)
		out[fmt.Sprint("Dup ", i)] = answer{row: twice}
		for at := -1; at < 4; at++ {
			turned, _ := Spoil(l, i, at, b)
			out[fmt.Sprint("Spoil ", i, " ", at)] = answer{row: turned}
		}
	}
	return out
}

// roomy is a row with letters behind its end, each of them with bytes behind its end, and all of that.
func roomy() (l, whole []api.Letter, behind [][]byte) {
	for _, x := range row(to(0, "ab"), to(1, ""), bad(0, "cdefg"), to(2, "h"), to(0, "behind"), bad(1, "it")) {
		b := append(x.B, "tail"...)
		x.B = b[:len(x.B)]
		whole = append(whole, x)
		behind = append(behind, b)
	}
	return whole[:4], whole, behind
}

// P5.1 to P5.3, R3: what is handed in is not written into, not even behind its end.
func TestArgumentsStay(t *testing.T) {
	l, whole, behind := roomy()
	full := append([]byte{1, 2, 3}, "tail"...)
	was := fmt.Sprint(told(whole), behind, full)
	Same(l, whole)
	Same(l, l)
	for name, a := range calls(l, full[:3]) {
		if now := fmt.Sprint(told(whole), behind, full); now != was {
			t.Fatalf("%s: written into: %s", name, now)
		}
		// Whoever has the answer may write into it, and lay more behind its end.
		for _, b := range a.parts() {
			clear(b[:cap(b)])
		}
		clear(a.row[:cap(a.row)])
		if now := fmt.Sprint(told(whole), behind, full); now != was {
			t.Fatalf("%s shares memory with what it was given: %s", name, now)
		}
	}
}

// P5.1 to P5.3, R3: what was given back stays as it is, whatever becomes of what was handed in.
func TestAnswersStay(t *testing.T) {
	l, whole, behind := roomy()
	full := append([]byte{1, 2, 3}, "tail"...)
	all := calls(l, full[:3])
	was := map[string]string{}
	for name, a := range all {
		was[name] = fmt.Sprint(told(a.row), a.parts())
	}
	for _, b := range behind {
		clear(b)
	}
	clear(whole)
	clear(full)
	for name, a := range all {
		if now := fmt.Sprint(told(a.row), a.parts()); now != was[name] {
			t.Errorf("%s: %s, was %s", name, now, was[name])
		}
	}
}

// P5.1 to P5.3: no two lists of one answer share memory, those of a letter and of its double least of all.
func TestListsAreApart(t *testing.T) {
	l, _, _ := roomy()
	for name, a := range calls(l, []byte{1, 2, 3}) {
		parts := a.parts()
		for i, b := range parts {
			for k := range b[:cap(b)] {
				b[:cap(b)][k] = byte(i + 1)
			}
		}
		for i, b := range parts {
			for _, x := range b[:cap(b)] {
				if x != byte(i+1) {
					t.Fatalf("%s: the bytes of %d are also another's", name, i)
				}
			}
		}
	}
}

// R4: what a call answers hangs on its arguments alone: a letter of one call is not seen in another.
func TestNothingIsKept(t *testing.T) {
	first, _, _ := roomy()
	was := calls(first, []byte{1, 2, 3})
	calls(rows()[len(rows())-1], []byte("other bytes"))
	again := calls(first, []byte{1, 2, 3})
	for name, a := range was {
		if b := again[name]; !alike(a.row, b.row) {
			t.Errorf("%s: %v, then %v", name, told(a.row), told(b.row))
		}
	}
}
