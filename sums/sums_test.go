package sums

import (
	"bytes"
	"hash/crc32"
	"math/big"
	"math/rand"
	"slices"
	"strings"
	"testing"

	"lancet/api"
	"lancet/crc"
)

// document: the chapter's table, row by row.
func document() []struct {
	name string
	size int
} {
	return []struct {
		name string
		size int
	}{{"none", 0}, {"sum", 1}, {"lrc", 1}, {"xor", 1}, {"fletcher", 2}, {"crc8", 1}, {"crc16", 2}, {"ccitt", 2}, {"crc32", 4}}
}

// absent: names that aren't there.
func absent() []string {
	return []string{"", " ", "non", "nones", "None", "NONE", "SUM", "Sum", "sum ", " sum", "sum\x00", "sums", "su", "none sum", "none,sum", "Lrc", "lrc8", "xor8", "or", "fletcher16", "Fletcher", "fletche", "crc", "crc1", "crc7", "crc9", "crc24", "crc64", "crc322", "CRC8", "CCITT", "ccit", "crc16, ccitt", "crc16,ccitt", "md5", "adler", "0", "\xff", strings.Repeat("sum", 2000)}
}

// texts: no bytes, all single ones, the edges of the rests by 255 and 256, and others of many lengths.
func texts() [][]byte {
	r := rand.New(rand.NewSource(5))
	list := [][]byte{nil, {}, []byte("abcde"), []byte("abcdef"), []byte("abcdefgh"), []byte("123456789")}
	for c := range 256 {
		list = append(list, []byte{byte(c)}, []byte{byte(c), 1}, []byte{byte(c), byte(256 - c)}, []byte{byte(c), byte(255 - c)})
	}
	for n := range 70 {
		b := make([]byte, n)
		r.Read(b)
		list = append(list, b, make([]byte, n), bytes.Repeat([]byte{255}, n), bytes.Repeat([]byte{254}, n), bytes.Repeat([]byte{1}, n))
	}
	for _, n := range []int{254, 255, 256, 257, 510, 511, 4000} {
		b := make([]byte, n)
		r.Read(b)
		list = append(list, b, bytes.Repeat([]byte{1}, n), bytes.Repeat([]byte{255}, n))
	}
	return list
}

// rest answers the rest of an exact number as one byte.
func rest(n *big.Int, by int64) byte {
	return byte(new(big.Int).Mod(n, big.NewInt(by)).Int64())
}

// model: the endings as the chapter says them, from exact numbers, and chapter 4's by rules written out.
func model(name string, b []byte) []byte {
	sum, sums, one := new(big.Int), new(big.Int), new(big.Int)
	for i, c := range b {
		sum.Add(sum, big.NewInt(int64(c)))
		// The sum of the first sums holds each byte once for itself and once for every byte behind it.
		sums.Add(sums, big.NewInt(int64(c)*int64(len(b)-i)))
		one.Xor(one, big.NewInt(int64(c)))
	}
	divided := func(k crc.Rule) uint32 {
		s, _ := crc.Sum(k, b)
		return s
	}
	switch name {
	case "none":
		return nil
	case "sum":
		return []byte{rest(sum, 256)}
	case "lrc":
		return []byte{rest(new(big.Int).Neg(sum), 256)}
	case "xor":
		return []byte{byte(one.Int64())}
	case "fletcher":
		return []byte{rest(sums, 255), rest(sum, 255)}
	case "crc8":
		return []byte{byte(divided(crc.Rule{Width: 8, Poly: 7}))}
	case "crc16":
		s := divided(crc.Rule{Width: 16, Poly: 32773, Turned: true})
		return []byte{byte(s / 256), byte(s % 256)}
	case "ccitt":
		s := divided(crc.Rule{Width: 16, Poly: 4129, First: 65535})
		return []byte{byte(s / 256), byte(s % 256)}
	}
	s := crc32.ChecksumIEEE(b)
	return []byte{byte(s >> 24), byte(s >> 16 & 255), byte(s >> 8 & 255), byte(s & 255)}
}

// Promise 5.1: the names, as the table has them.
func TestNames(t *testing.T) {
	var want []string
	for _, row := range document() {
		want = append(want, row.name)
	}
	// More than once: the order may not hang on that in which a map is gone through.
	for range 50 {
		if got := Names(); !slices.Equal(got, want) {
			t.Fatalf("Names() = %q; not %q", got, want)
		}
	}
}

// Promise 5.1: names that were handed out are new memory, spare room included.
func TestNamesAreNew(t *testing.T) {
	first := Names()
	room := first[:cap(first)]
	for i := range room {
		room[i] = "changed"
	}
	if got := Names(); slices.Contains(got[:cap(got)], "changed") {
		t.Errorf("Names() = %q", got[:cap(got)])
	}
}

// Promise 5.1: how many bytes each has; nothing of another name.
func TestSize(t *testing.T) {
	for _, row := range document() {
		if n, ok := Size(row.name); n != row.size || !ok {
			t.Errorf("Size(%q) = %d, %v; not %d", row.name, n, ok, row.size)
		}
	}
	for _, name := range absent() {
		if n, ok := Size(name); n != 0 || ok {
			t.Errorf("Size(%.30q) = %d, %v", name, n, ok)
		}
	}
}

// Promise 5.1: endings written out: the chapter's example, those of chapter 4, and the edges of the rests.
func TestExamples(t *testing.T) {
	for _, c := range []struct{ name, b, want string }{
		{"fletcher", "abcde", "\xc8\xf0"},
		{"fletcher", "abcdef", "\x20\x57"},
		{"fletcher", "abcdefgh", "\x06\x27"},
		{"fletcher", "", "\x00\x00"},
		{"fletcher", "\x01", "\x01\x01"},
		{"fletcher", "\x01\x02", "\x04\x03"},
		{"fletcher", "\xfe", "\xfe\xfe"},
		{"fletcher", "\xff", "\x00\x00"},
		{"fletcher", "\xff\xff", "\x00\x00"},
		{"fletcher", "\xfe\x01", "\xfe\x00"},
		{"fletcher", "\xfe\x02", "\x00\x01"},
		{"none", "", ""},
		{"none", "123456789", ""},
		{"sum", "", "\x00"},
		{"sum", "123456789", "\xdd"},
		{"sum", "\xff", "\xff"},
		{"sum", "\xff\x01", "\x00"},
		{"sum", "\xff\x02", "\x01"},
		{"sum", "\x80\x80\x80", "\x80"},
		{"lrc", "", "\x00"},
		{"lrc", "123456789", "\x23"},
		{"lrc", "\x01", "\xff"},
		{"lrc", "\xff", "\x01"},
		{"lrc", "\x80", "\x80"},
		{"lrc", "\xff\x01", "\x00"},
		{"xor", "", "\x00"},
		{"xor", "123456789", "\x31"},
		{"xor", "\xf0\x0f", "\xff"},
		{"xor", "\xf0\x30", "\xc0"},
		{"xor", "\xab\xab", "\x00"},
		{"crc8", "", "\x00"},
		{"crc8", "123456789", "\xf4"},
		{"crc16", "", "\x00\x00"},
		{"crc16", "123456789", "\xbb\x3d"},
		{"ccitt", "", "\xff\xff"},
		{"ccitt", "123456789", "\x29\xb1"},
		{"crc32", "", "\x00\x00\x00\x00"},
		{"crc32", "123456789", "\xcb\xf4\x39\x26"},
	} {
		if got, e := Of(c.name, []byte(c.b)); string(got) != c.want || e != api.OK {
			t.Errorf("Of(%q, %q) = %x, %d; not %x", c.name, c.b, got, e, c.want)
		}
	}
}

// Promise 5.1: endings of all kinds and texts are those of the model, and have as many bytes as Size tells.
func TestOfAll(t *testing.T) {
	for _, row := range document() {
		for _, b := range texts() {
			got, e := Of(row.name, b)
			if want := model(row.name, b); !bytes.Equal(got, want) || e != api.OK || len(got) != row.size {
				t.Errorf("Of(%q, %x) = %x, %d; not %x", row.name, b, got, e, want)
			}
		}
	}
}

// Promise 5.1: a long text, whose sums are far beyond what a few bits hold.
func TestLongText(t *testing.T) {
	long := make([]byte, 1<<20)
	rand.New(rand.NewSource(55)).Read(long)
	for _, b := range [][]byte{long, bytes.Repeat([]byte{254}, 1<<20)} {
		for _, row := range document() {
			if got, e := Of(row.name, b); !bytes.Equal(got, model(row.name, b)) || e != api.OK {
				t.Errorf("%s of a long text: %x, %d; not %x", row.name, got, e, model(row.name, b))
			}
		}
	}
}

// Promise 5.1: ErrName, and no bytes, of another name.
func TestOfAbsentNames(t *testing.T) {
	for _, name := range absent() {
		for _, b := range [][]byte{nil, {0}, []byte("123456789")} {
			if got, e := Of(name, b); len(got) != 0 || e != api.ErrName {
				t.Errorf("Of(%.30q, %q) = %x, %d", name, b, got, e)
			}
		}
	}
}

// Promise 5.1: the bytes handed in stay, the room behind them is neither summed nor changed, and an ending is new memory.
func TestOfSharesNothing(t *testing.T) {
	const given, behind = "123456789", "behind"
	for _, row := range document() {
		room := []byte(given + behind)
		first, _ := Of(row.name, room[:len(given)])
		if want, _ := Of(row.name, []byte(given)); !bytes.Equal(first, want) {
			t.Errorf("%s: %x with room behind its bytes, %x without", row.name, first, want)
		}
		second, _ := Of(row.name, room[:len(given)])
		kept := bytes.Clone(second[:cap(second)])
		spare := first[:cap(first)]
		for i := range spare {
			spare[i] ^= 255
		}
		if string(room) != given+behind || !bytes.Equal(second[:cap(second)], kept) {
			t.Errorf("%s: an ending shares its memory", row.name)
		}
	}
}

// Promise 5.2: an ending is good if it is the sum, all of it, and nothing beside it.
func TestGood(t *testing.T) {
	for _, row := range document() {
		for _, b := range texts() {
			want := model(row.name, b)
			if !Good(row.name, b, want) {
				t.Errorf("Good(%q, %x, %x) is false", row.name, b, want)
			}
			wrong := [][]byte{append(bytes.Clone(want), 0), append([]byte{0}, want...), append(bytes.Clone(want), want...)}
			if len(want) > 0 {
				wrong = append(wrong, nil, want[1:], want[:len(want)-1], want[:len(want)/2])
			} else {
				wrong = wrong[:2]
			}
			for at := range want {
				for bit := range 8 {
					other := bytes.Clone(want)
					other[at] ^= 1 << bit
					wrong = append(wrong, other)
				}
			}
			for _, sum := range wrong {
				if Good(row.name, b, sum) {
					t.Errorf("Good(%q, %x, %x); it is %x", row.name, b, sum, want)
				}
			}
		}
	}
}

// Promise 5.2: cases written out: the order of an ending's bytes, another one's ending, and no bytes.
func TestGoodCases(t *testing.T) {
	for _, c := range []struct {
		name, b, sum string
		want         bool
	}{
		{"fletcher", "abcde", "\xc8\xf0", true},
		{"fletcher", "abcde", "\xf0\xc8", false},
		{"fletcher", "\xff", "\x00\x00", true},
		{"fletcher", "\xff", "\xff\xff", false},
		{"crc16", "123456789", "\xbb\x3d", true},
		{"crc16", "123456789", "\x3d\xbb", false},
		{"crc16", "123456788", "\xbb\x3d", false},
		{"crc16", "123456789", "\x29\xb1", false},
		{"crc32", "123456789", "\xcb\xf4\x39\x26", true},
		{"crc32", "123456789", "\x26\x39\xf4\xcb", false},
		{"crc32", "123456789", "\xcb\xf4\x39", false},
		{"crc32", "123456789", "\xcb\xf4\x39\x26\x00", false},
		{"none", "", "", true},
		{"none", "123456789", "", true},
		{"none", "", "\x00", false},
		{"none", "123456789", "\x00", false},
		{"sum", "", "\x00", true},
		{"sum", "", "", false},
	} {
		if got := Good(c.name, []byte(c.b), []byte(c.sum)); got != c.want {
			t.Errorf("Good(%q, %q, %x) = %v", c.name, c.b, c.sum, got)
		}
	}
	if !Good("none", nil, nil) || !Good("none", nil, []byte{}) || Good("sum", nil, nil) {
		t.Error("Good of no bytes")
	}
}

// Promise 5.2: nothing is the ending of another name, not even no bytes.
func TestGoodOfAbsentNames(t *testing.T) {
	for _, name := range absent() {
		for _, sum := range [][]byte{nil, {}, {0}, {0, 0}, {0, 0, 0, 0}} {
			for _, b := range [][]byte{nil, {0}, []byte("123456789")} {
				if Good(name, b, sum) {
					t.Errorf("Good(%.30q, %q, %x)", name, b, sum)
				}
			}
		}
	}
}

// Promise 5.2: what is handed in stays, and the room behind it isn't looked at.
func TestGoodChangesNothing(t *testing.T) {
	for _, row := range document() {
		b, sum := []byte("123456789behind"), append(model(row.name, []byte("123456789")), "behind"...)
		want := bytes.Clone(sum)
		if !Good(row.name, b[:9], sum[:row.size]) {
			t.Errorf("%s: not good with room behind it", row.name)
		}
		if string(b) != "123456789behind" || !bytes.Equal(sum, want) {
			t.Errorf("%s: changed to %q, %q", row.name, b, sum)
		}
	}
}

// Promise 5.3: the sums of bytes, and the lrc behind them, come to 0.
func TestLrcBehind(t *testing.T) {
	for _, b := range texts() {
		lrc, _ := Of("lrc", b)
		all := slices.Concat(b, lrc)
		if got, e := Of("sum", all); len(got) != 1 || got[0] != 0 || e != api.OK {
			t.Errorf("the sum of %x is %x, %d", all, got, e)
		}
		sum, _ := Of("sum", b)
		if len(lrc) != 1 || len(sum) != 1 || lrc[0]+sum[0] != 0 {
			t.Errorf("sum %x and lrc %x of %x don't come to 0", sum, lrc, b)
		}
	}
}
