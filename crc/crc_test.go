package crc

import (
	"bytes"
	"hash/crc32"
	"math"
	"math/big"
	"math/rand"
	"slices"
	"strings"
	"testing"

	"lancet/api"
)

// digits is what the chapter's examples are sums of.
const digits = "123456789"

// document: the chapter's table, row by row, with the sums of its examples.
func document() []struct {
	name string
	rule Rule
	sum  uint32
} {
	return []struct {
		name string
		rule Rule
		sum  uint32
	}{
		{"crc8", Rule{8, 7, 0, false, 0}, 0xf4},
		{"crc16", Rule{16, 32773, 0, true, 0}, 0xbb3d},
		{"ccitt", Rule{16, 4129, 65535, false, 0}, 0x29b1},
		{"crc32", Rule{32, 79764919, 4294967295, true, 4294967295}, 0xcbf43926},
	}
}

// rules: kinds of each width, turned and not, of every mixture of the lowest, the highest and other numbers.
func rules() []Rule {
	r := rand.New(rand.NewSource(4))
	var list []Rule
	for _, width := range []int{8, 16, 32} {
		top := uint32(1<<width - 1)
		polys := []uint32{0, 1, top/2 + 1, top, r.Uint32() & top, r.Uint32() & top}
		others := []uint32{0, 1, top/2 + 1, top, r.Uint32() & top}
		for _, poly := range polys {
			for _, first := range others {
				for _, last := range others {
					list = append(list, Rule{width, poly, first, false, last}, Rule{width, poly, first, true, last})
				}
			}
		}
	}
	for _, row := range document() {
		list = append(list, row.rule)
	}
	return list
}

// texts: no bytes, one byte, as many as a sum has, fewer and more.
func texts() [][]byte {
	r := rand.New(rand.NewSource(44))
	list := [][]byte{nil, {}, {0}, {1}, {128}, {255}, []byte(digits), make([]byte, 9), bytes.Repeat([]byte{255}, 9)}
	for n := range 12 {
		b := make([]byte, n)
		r.Read(b)
		list = append(list, b)
	}
	return list
}

// mirror turns the lowest bits by way of their digits.
func mirror(v uint32, n int) uint32 {
	text := []byte(big.NewInt(int64(v) & (1<<n - 1)).Text(2))
	text = append(bytes.Repeat([]byte{'0'}, n-len(text)), text...)
	slices.Reverse(text)
	turned, _ := new(big.Int).SetString(string(text), 2)
	return uint32(turned.Uint64())
}

// model: the rest of all bytes as one number, with the width's zeros behind it and the beginning made one with its highest bits, divided without carrying.
func model(k Rule, b []byte) uint32 {
	whole := new(big.Int)
	for _, c := range b {
		if k.Turned {
			c = byte(mirror(uint32(c), 8))
		}
		whole.Lsh(whole, 8).Or(whole, big.NewInt(int64(c)))
	}
	whole.Lsh(whole, uint(k.Width))
	whole.Xor(whole, new(big.Int).Lsh(big.NewInt(int64(k.First)), uint(8*len(b))))
	by := big.NewInt(1<<k.Width | int64(k.Poly))
	for whole.BitLen() > k.Width {
		whole.Xor(whole, new(big.Int).Lsh(by, uint(whole.BitLen()-by.BitLen())))
	}
	rest := uint32(whole.Uint64())
	if k.Turned {
		rest = mirror(rest, k.Width)
	}
	return rest ^ k.Last
}

// absent: names that aren't there.
func absent() []string {
	return []string{"", " ", "crc", "crc1", "crc7", "crc9", "crc64", "crc322", "CRC8", "Crc16", "CCITT", "ccit", "ccitts", "crc8 ", " crc8", "crc8\x00", "crc16,ccitt", "none", "sum", "lrc", "xor", "fletcher", "c", "8", "\xff", strings.Repeat("crc8", 1000)}
}

// Promise 4.1: every row of the table by its name; nothing of another one.
func TestNamed(t *testing.T) {
	for _, row := range document() {
		if got, ok := Named(row.name); got != row.rule || !ok {
			t.Errorf("Named(%q) = %v, %v; not %v", row.name, got, ok, row.rule)
		}
	}
	for _, name := range absent() {
		if got, ok := Named(name); got != (Rule{}) || ok {
			t.Errorf("Named(%q) = %v, %v", name, got, ok)
		}
	}
}

// Promise 4.1: the chapter's examples.
func TestExamples(t *testing.T) {
	for _, row := range document() {
		k, _ := Named(row.name)
		if got, e := Sum(k, []byte(digits)); got != row.sum || e != api.OK {
			t.Errorf("%s: %x, %d; not %x", row.name, got, e, row.sum)
		}
	}
}

// Promise 4.1: kinds that are not in the table, whose sums of 123456789 are widely known.
func TestKnownKinds(t *testing.T) {
	for _, c := range []struct {
		rule Rule
		want uint32
	}{
		{Rule{8, 0x31, 0, true, 0}, 0xa1},
		{Rule{8, 0x07, 0xff, true, 0}, 0xd0},
		{Rule{8, 0x07, 0, false, 0x55}, 0xa1},
		{Rule{8, 0x9b, 0xff, false, 0}, 0xda},
		{Rule{8, 0x1d, 0xff, true, 0}, 0x97},
		{Rule{8, 0x39, 0, true, 0}, 0x15},
		{Rule{16, 0x8005, 0xffff, true, 0}, 0x4b37},
		{Rule{16, 0x8005, 0xffff, true, 0xffff}, 0xb4c8},
		{Rule{16, 0x1021, 0, false, 0}, 0x31c3},
		{Rule{16, 0x1021, 0, true, 0}, 0x2189},
		{Rule{16, 0x1021, 0xffff, true, 0xffff}, 0x906e},
		{Rule{16, 0x1021, 0xffff, false, 0xffff}, 0xd64e},
		// The beginning isn't turned, though bytes and the sum are.
		{Rule{16, 0x1021, 0xb2aa, true, 0}, 0x63d0},
		{Rule{16, 0x1021, 0x89ec, true, 0}, 0x26b1},
		{Rule{16, 0x1021, 0xc6c6, true, 0}, 0xbf05},
		{Rule{32, 0x1edc6f41, 0xffffffff, true, 0xffffffff}, 0xe3069283},
		{Rule{32, 0x04c11db7, 0xffffffff, false, 0xffffffff}, 0xfc891918},
		{Rule{32, 0x04c11db7, 0xffffffff, false, 0}, 0x0376e6e7},
		{Rule{32, 0x04c11db7, 0, false, 0xffffffff}, 0x765e7680},
		{Rule{32, 0x04c11db7, 0xffffffff, true, 0}, 0x340bc6d9},
		{Rule{32, 0xaf, 0, false, 0}, 0xbd0be338},
	} {
		if got, e := Sum(c.rule, []byte(digits)); got != c.want || e != api.OK {
			t.Errorf("Sum(%v) = %x, %d; not %x", c.rule, got, e, c.want)
		}
	}
}

// Promise 4.1: of no bytes a sum is its beginning, turned if told so, made one with the last number; of one byte, its steps written out.
func TestFewBytes(t *testing.T) {
	for _, c := range []struct {
		rule Rule
		b    []byte
		want uint32
	}{
		{Rule{8, 7, 0, false, 0}, nil, 0},
		{Rule{8, 7, 0x12, false, 0}, []byte{}, 0x12},
		{Rule{8, 7, 0x12, true, 0}, nil, 0x48},
		{Rule{8, 7, 0x12, true, 0xff}, nil, 0xb7},
		{Rule{16, 4129, 65535, false, 0}, nil, 65535},
		{Rule{16, 4129, 0x0001, true, 0x0001}, nil, 0x8001},
		{Rule{32, 79764919, 4294967295, true, 4294967295}, nil, 0},
		{Rule{32, 79764919, 1, true, 0}, nil, 0x80000000},
		{Rule{8, 7, 0, false, 0}, []byte{0}, 0},
		{Rule{8, 7, 0, false, 0}, []byte{1}, 7},
		{Rule{8, 7, 0, false, 0}, []byte{0x80}, 0x89},
		{Rule{8, 7, 0, true, 0}, []byte{0x80}, 0xe0},
		{Rule{8, 0, 255, false, 0}, []byte{1}, 0},
		{Rule{8, 255, 0, false, 0}, []byte{1}, 255},
		{Rule{16, 4129, 0, false, 0}, []byte{1}, 0x1021},
		{Rule{16, 0, 0x1234, false, 0}, []byte{0xff}, 0x3400},
		{Rule{32, 79764919, 0, false, 0}, []byte{1}, 79764919},
		{Rule{32, 0, 0x12345678, true, 0}, []byte{0xff}, 0x001e6a2c},
	} {
		if got, e := Sum(c.rule, c.b); got != c.want || e != api.OK {
			t.Errorf("Sum(%v, %v) = %x, %d; not %x", c.rule, c.b, got, e, c.want)
		}
	}
}

// Promise 4.1: sums of all kinds and texts are the rests of a division.
func TestSumsAreRests(t *testing.T) {
	for _, k := range rules() {
		for _, b := range texts() {
			if got, e := Sum(k, b); got != model(k, b) || e != api.OK {
				t.Errorf("Sum(%v, %v) = %x, %d; not %x", k, b, got, e, model(k, b))
			}
		}
	}
	for c := range 256 {
		for _, row := range document() {
			b := []byte{byte(c)}
			if got, e := Sum(row.rule, b); got != model(row.rule, b) || e != api.OK {
				t.Errorf("%s of %d: %x, %d", row.name, c, got, e)
			}
		}
	}
}

// Promise 4.1: a long text.
func TestLongText(t *testing.T) {
	b := make([]byte, 1<<20)
	rand.New(rand.NewSource(444)).Read(b)
	k, _ := Named("crc32")
	if got, e := Sum(k, b); got != crc32.ChecksumIEEE(b) || e != api.OK {
		t.Errorf("Sum = %x, %d; not %x", got, e, crc32.ChecksumIEEE(b))
	}
}

// Promise 4.1: another width is ErrArg, whatever stands beside it.
func TestWrongWidth(t *testing.T) {
	for _, width := range []int{0, 1, 4, 7, 9, 12, 15, 17, 24, 31, 33, 40, 63, 64, 128, 256 + 8, 1<<16 + 16, 1<<32 + 32, -1, -8, -16, -32, math.MinInt, math.MaxInt} {
		for _, k := range []Rule{{Width: width}, {Width: width, Poly: 7}, {Width: width, Poly: 7, Turned: true}, {width, math.MaxUint32, math.MaxUint32, true, math.MaxUint32}} {
			for _, b := range [][]byte{nil, []byte(digits)} {
				if got, e := Sum(k, b); got != 0 || e != api.ErrArg {
					t.Errorf("Sum(%v, %q) = %x, %d", k, b, got, e)
				}
			}
		}
	}
}

// Promise 4.1: a polynomial, a beginning or a last number that isn't below 2 to the width is ErrArg, each by itself; just below it is well.
func TestNumbersBeyondTheWidth(t *testing.T) {
	for _, width := range []int{8, 16} {
		top := uint32(1)<<width - 1
		for _, c := range []struct {
			v uint32
			e api.Errno
		}{{top, api.OK}, {top + 1, api.ErrArg}, {top + 2, api.ErrArg}, {1 << 31, api.ErrArg}, {math.MaxUint32, api.ErrArg}} {
			for _, turned := range []bool{false, true} {
				for _, k := range []Rule{{width, c.v, 0, turned, 0}, {width, 0, c.v, turned, 0}, {width, 0, 0, turned, c.v}, {width, c.v, c.v, turned, c.v}} {
					for _, b := range [][]byte{nil, []byte(digits)} {
						got, e := Sum(k, b)
						if e != c.e || e != api.OK && got != 0 {
							t.Errorf("Sum(%v, %q) = %x, %d; not %d", k, b, got, e, c.e)
						}
					}
				}
			}
		}
	}
	for _, k := range []Rule{{32, math.MaxUint32, 0, false, 0}, {32, 0, math.MaxUint32, false, 0}, {32, 0, 0, false, math.MaxUint32}} {
		if _, e := Sum(k, []byte(digits)); e != api.OK {
			t.Errorf("Sum(%v) = %d", k, e)
		}
	}
}

// Promise 4.1: the bytes handed in aren't changed, and the room behind them is neither changed nor summed.
func TestBytesStay(t *testing.T) {
	room := []byte(digits + "behind")
	for _, k := range rules() {
		got, _ := Sum(k, room[:len(digits)])
		if want, _ := Sum(k, []byte(digits)); got != want {
			t.Errorf("Sum(%v) = %x with room behind its bytes, %x without", k, got, want)
		}
	}
	if string(room) != digits+"behind" {
		t.Errorf("changed to %q", room)
	}
}

// numbers: numbers that are turned, with bits above the lowest ones.
func numbers() []uint32 {
	list := []uint32{0, 1, 2, 3, 0b1101, 0x80, 0xff, 0x100, 0x1234, 0xffff, 0x10000, 0x12345678, 0x80000000, 0x80000001, math.MaxUint32 - 1, math.MaxUint32}
	r := rand.New(rand.NewSource(4444))
	for range 100 {
		list = append(list, r.Uint32())
	}
	return list
}

// Promise 4.2: the lowest bits, of 1 to 32, in the other order, and nothing of those above them.
func TestTurn(t *testing.T) {
	for _, c := range []struct {
		v    uint32
		bits int
		want uint32
	}{
		{0b1101, 4, 0b1011}, {0b1101, 3, 0b101}, {0b1101, 8, 0b10110000}, {0b1101, 1, 1}, {0b1100, 1, 0}, {0b1100, 2, 0},
		{1, 1, 1}, {1, 8, 0x80}, {1, 16, 0x8000}, {1, 31, 1 << 30}, {1, 32, 1 << 31}, {1 << 31, 32, 1}, {1 << 31, 31, 0},
		{0x101, 8, 0x80}, {0xffffff00, 8, 0}, {0x12345678, 32, 0x1e6a2c48}, {math.MaxUint32, 32, math.MaxUint32}, {math.MaxUint32, 5, 31},
	} {
		if got := Turn(c.v, c.bits); got != c.want {
			t.Errorf("Turn(%b, %d) = %b; not %b", c.v, c.bits, got, c.want)
		}
	}
	for _, v := range numbers() {
		for n := 1; n <= 32; n++ {
			if got := Turn(v, n); got != mirror(v, n) {
				t.Errorf("Turn(%b, %d) = %b; not %b", v, n, got, mirror(v, n))
			}
		}
	}
}

// Promise 4.2: 0 of a number of bits that may not be.
func TestTurnOfOtherNumbers(t *testing.T) {
	for _, n := range []int{0, -1, -8, -31, -32, -33, 33, 34, 40, 63, 64, 65, 256 + 8, 1 << 31, 1<<32 + 8, math.MinInt, math.MaxInt} {
		for _, v := range numbers() {
			if got := Turn(v, n); got != 0 {
				t.Errorf("Turn(%b, %d) = %b", v, n, got)
			}
		}
	}
}

// Promise 4.3: turned twice a number is itself.
func TestTurnedTwice(t *testing.T) {
	for _, v := range numbers() {
		for n := 1; n <= 32; n++ {
			low := v & uint32(1<<n-1)
			if got := Turn(Turn(low, n), n); got != low {
				t.Errorf("%b, turned twice by %d bits: %b", low, n, got)
			}
		}
	}
}

// Promise 4.3: sums of three texts of one length, made one, are the sum of the texts, made one.
func TestThreeTexts(t *testing.T) {
	r := rand.New(rand.NewSource(44444))
	for _, k := range rules() {
		for n := range 7 {
			var three [3][]byte
			one, want := make([]byte, n), uint32(0)
			for i := range three {
				three[i] = make([]byte, n)
				r.Read(three[i])
				for at, c := range three[i] {
					one[at] ^= c
				}
				s, _ := Sum(k, three[i])
				want ^= s
			}
			if got, e := Sum(k, one); got != want || e != api.OK {
				t.Errorf("Sum(%v, %v) = %x, %d; not %x, which %v make", k, one, got, e, want, three)
			}
		}
	}
}
