package bits

import (
	"bytes"
	"encoding/hex"
	"fmt"
	"math"
	"math/big"
	"math/rand"
	"regexp"
	"slices"
	"strings"
	"testing"

	"lancet/api"
)

// row is a kind of a width, with the least and the greatest number.
type row struct {
	kind            string
	width           int
	least, greatest int64
}

// document: all kinds and widths that there are, their ends written out.
func document() []row {
	return []row{
		{"be", 1, 0, 255}, {"be", 2, 0, 65535}, {"be", 3, 0, 16777215}, {"be", 4, 0, 4294967295},
		{"le", 1, 0, 255}, {"le", 2, 0, 65535}, {"le", 3, 0, 16777215}, {"le", 4, 0, 4294967295},
		{"sbe", 1, -128, 127}, {"sbe", 2, -32768, 32767}, {"sbe", 3, -8388608, 8388607}, {"sbe", 4, -2147483648, 2147483647},
		{"sle", 1, -128, 127}, {"sle", 2, -32768, 32767}, {"sle", 3, -8388608, 8388607}, {"sle", 4, -2147483648, 2147483647},
		{"bcd", 1, 0, 99}, {"bcd", 2, 0, 9999}, {"bcd", 3, 0, 999999}, {"bcd", 4, 0, 99999999},
		{"dec", 1, 0, 9}, {"dec", 2, -9, 99}, {"dec", 3, -99, 999}, {"dec", 4, -999, 9999},
		{"dec", 5, -9999, 99999}, {"dec", 6, -99999, 999999}, {"dec", 7, -999999, 9999999}, {"dec", 8, -9999999, 99999999},
	}
}

// there tells whether the document has such a kind, of such a width.
func there(kind string, width int) bool {
	return slices.ContainsFunc(document(), func(r row) bool { return r.kind == kind && r.width == width })
}

// kinds: all that there are.
func kinds() []string { return []string{"be", "le", "sbe", "sle", "bcd", "dec"} }

// absent: kinds that aren't there.
func absent() []string {
	return []string{"", " ", "b", "l", "s", "e", "BE", "Be", "be ", " be", "be\x00", "bee", "bele", "be, le", "be,le", "LE", "lee", "sb", "sl", "SBE", "sbe ", "ssbe", "bsd", "BCD", "bc", "bcdd", "sbcd", "d", "de", "DEC", "Dec", "decs", "sdec", "dec ", "hex", "float", "1", "\xff", strings.Repeat("be", 2000)}
}

// wrongWidths: those that no kind has.
func wrongWidths() []int {
	return []int{math.MinInt, math.MinInt32, -256, -255, -8, -4, -1, 0, 9, 10, 16, 32, 255, 256, 257, 260, 65537, math.MaxInt32, math.MaxInt}
}

// withRoom puts memory behind given bytes that a call may neither look at nor change.
func withRoom(b []byte) []byte {
	return append(slices.Clip(bytes.Clone(b)), "1234567890"...)[:len(b)]
}

// shapes: what bytes of the decimal kinds look like; those of bcd are written in hexadecimal first.
var (
	shapeOfDec = regexp.MustCompile(`\A *-?[0-9]+\z`)
	shapeOfBcd = regexp.MustCompile(`\A[0-9]+\z`)
)

// model: what bytes of a right length are read as, by exact numbers and by shapes of texts.
func model(kind string, b []byte) (int64, api.Errno) {
	decimal := func(text string) int64 {
		n, _ := new(big.Int).SetString(text, 10)
		return n.Int64()
	}
	switch kind {
	case "dec":
		if !shapeOfDec.Match(b) {
			return 0, api.ErrForm
		}
		return decimal(strings.TrimLeft(string(b), " ")), api.OK
	case "bcd":
		text := hex.EncodeToString(b)
		if !shapeOfBcd.MatchString(text) {
			return 0, api.ErrForm
		}
		return decimal(text), api.OK
	}
	order := bytes.Clone(b)
	if strings.HasSuffix(kind, "le") {
		slices.Reverse(order)
	}
	n := new(big.Int).SetBytes(order).Int64()
	if kind[0] == 's' && order[0] >= 128 {
		n -= new(big.Int).Lsh(big.NewInt(1), uint(8*len(b))).Int64()
	}
	return n, api.OK
}

// written: the bytes of a number that has a place, by the library's writing.
func written(kind string, width int, n int64) []byte {
	switch kind {
	case "dec":
		return fmt.Appendf(nil, "%*d", width, n)
	case "bcd":
		b, _ := hex.DecodeString(fmt.Sprintf("%0*d", 2*width, n))
		return b
	}
	b := new(big.Int).And(big.NewInt(n), big.NewInt(int64(1)<<(8*width)-1)).FillBytes(make([]byte, width))
	if strings.HasSuffix(kind, "le") {
		slices.Reverse(b)
	}
	return b
}

// numbers: all that a row has, if they are few; else those near its ends, near 0 and near each power of 2 and of 10, and others.
func numbers(r row) []int64 {
	var list []int64
	if r.greatest-r.least < 70000 {
		for n := r.least; n <= r.greatest; n++ {
			list = append(list, n)
		}
		return list
	}
	near := func(middle int64) {
		for n := middle - 300; n <= middle+300; n++ {
			list = append(list, n, -n)
		}
	}
	near(0)
	near(r.least)
	near(r.greatest)
	for shift := range 33 {
		near(1 << shift)
	}
	for ten := int64(1); ten < 1e10; ten *= 10 {
		near(ten)
	}
	random := rand.New(rand.NewSource(6))
	for range 20000 {
		list = append(list, r.least+random.Int63n(r.greatest-r.least+1))
	}
	return slices.DeleteFunc(list, func(n int64) bool { return n < r.least || n > r.greatest })
}

// Promise 6.1: which kinds there are, of which widths.
func TestRight(t *testing.T) {
	for _, kind := range kinds() {
		for width := -20; width <= 20; width++ {
			if got := Right(kind, width); got != there(kind, width) {
				t.Errorf("Right(%q, %d) = %v", kind, width, got)
			}
		}
		for _, width := range wrongWidths() {
			if Right(kind, width) {
				t.Errorf("Right(%q, %d)", kind, width)
			}
		}
	}
	for _, kind := range absent() {
		for _, width := range append(wrongWidths(), 1, 2, 3, 4, 5, 6, 7, 8) {
			if Right(kind, width) {
				t.Errorf("Right(%.30q, %d)", kind, width)
			}
		}
	}
}

// Promise 6.1: the least and the greatest number.
func TestEnds(t *testing.T) {
	for _, r := range document() {
		if least, greatest := Ends(r.kind, r.width); least != r.least || greatest != r.greatest {
			t.Errorf("Ends(%q, %d) = %d, %d; not %d, %d", r.kind, r.width, least, greatest, r.least, r.greatest)
		}
	}
}

// Promise 6.1: 0, 0 of a kind or a width that isn't there.
func TestEndsOfNoneSuch(t *testing.T) {
	for _, kind := range append(kinds(), absent()...) {
		for _, width := range append(wrongWidths(), 1, 2, 3, 4, 5, 6, 7, 8) {
			if there(kind, width) {
				continue
			}
			if least, greatest := Ends(kind, width); least != 0 || greatest != 0 {
				t.Errorf("Ends(%.30q, %d) = %d, %d", kind, width, least, greatest)
			}
		}
	}
}

// Promise 6.1: numbers written out, the chapter's example first.
func TestReadExamples(t *testing.T) {
	for _, c := range []struct {
		kind, b string
		want    int64
	}{
		{"sle", "\xfe\xff", -2},
		{"be", "\x00", 0}, {"be", "\xff", 255}, {"be", "\x01\x02", 258}, {"be", "\x01\x02\x03", 66051}, {"be", "\x01\x02\x03\x04", 16909060}, {"be", "\xff\xff\xff\xff", 4294967295}, {"be", "\x80\x00\x00\x00", 2147483648},
		{"le", "\x00", 0}, {"le", "\xff", 255}, {"le", "\x01\x02", 513}, {"le", "\x01\x02\x03", 197121}, {"le", "\x01\x02\x03\x04", 67305985}, {"le", "\xff\xff\xff\xff", 4294967295}, {"le", "\x00\x00\x00\x80", 2147483648},
		{"sbe", "\x7f", 127}, {"sbe", "\x80", -128}, {"sbe", "\xff", -1}, {"sbe", "\xff\x80", -128}, {"sbe", "\x00\x80", 128}, {"sbe", "\x80\x00\x00", -8388608}, {"sbe", "\x7f\xff\xff\xff", 2147483647}, {"sbe", "\x80\x00\x00\x00", -2147483648},
		{"sle", "\x7f", 127}, {"sle", "\x80", -128}, {"sle", "\xff\x80", -32513}, {"sle", "\x80\xff", -128}, {"sle", "\x80\x00", 128}, {"sle", "\x00\x00\x80", -8388608}, {"sle", "\xff\xff\xff\x7f", 2147483647}, {"sle", "\x00\x00\x00\x80", -2147483648},
		{"bcd", "\x00", 0}, {"bcd", "\x09", 9}, {"bcd", "\x10", 10}, {"bcd", "\x99", 99}, {"bcd", "\x12\x90", 1290}, {"bcd", "\x00\x01\x02", 102}, {"bcd", "\x12\x34\x56\x78", 12345678}, {"bcd", "\x99\x99\x99\x99", 99999999},
		{"dec", "0", 0}, {"dec", "9", 9}, {"dec", "007", 7}, {"dec", "  42", 42}, {"dec", " -7", -7}, {"dec", "-7", -7}, {"dec", "-07", -7}, {"dec", "  -07", -7}, {"dec", "-0", 0}, {"dec", " -00", 0}, {"dec", "12345678", 12345678}, {"dec", "99999999", 99999999}, {"dec", "-9999999", -9999999}, {"dec", "       1", 1}, {"dec", "      -1", -1}, {"dec", "00000000", 0},
	} {
		if n, e := Read(c.kind, []byte(c.b)); n != c.want || e != api.OK {
			t.Errorf("Read(%q, %q) = %d, %d; not %d", c.kind, c.b, n, e, c.want)
		}
	}
}

// Promise 6.1: ErrForm of bytes that are none of that form.
func TestReadWrongForms(t *testing.T) {
	for _, c := range []struct{ kind, b string }{
		{"bcd", "\x0a"}, {"bcd", "\xa0"}, {"bcd", "\x1a"}, {"bcd", "\x0f"}, {"bcd", "\xf0"}, {"bcd", "\xff"}, {"bcd", "\x9a"}, {"bcd", "\xa9"}, {"bcd", "\x12\x3a"}, {"bcd", "\xc2\x34"}, {"bcd", "\x12\x3b\x45"}, {"bcd", "\x12\x34\x56\x7d"}, {"bcd", "\xe2\x34\x56\x78"}, {"bcd", " -"},
		{"dec", " "}, {"dec", "   "}, {"dec", "        "}, {"dec", "-"}, {"dec", " -"}, {"dec", "       -"}, {"dec", "--"}, {"dec", "--7"}, {"dec", "- 7"}, {"dec", "-  7"}, {"dec", " - 7"}, {"dec", "7-"}, {"dec", "7 "}, {"dec", "-7 "}, {"dec", "1 2"}, {"dec", " 1 2"}, {"dec", "1-2"}, {"dec", "0-"}, {"dec", "+7"}, {"dec", " +7"}, {"dec", "1.5"}, {"dec", "1e5"}, {"dec", "0x1"}, {"dec", "1_0"}, {"dec", "a"}, {"dec", "/"}, {"dec", ":"}, {"dec", "1/"}, {"dec", "1:"}, {"dec", "\t7"}, {"dec", "\n7"}, {"dec", "7\n"}, {"dec", "\x007"}, {"dec", "7\x00"}, {"dec", "\x00"}, {"dec", "\x07"}, {"dec", "\xa07"}, {"dec", "\xb7"}, {"dec", "\xff"}, {"dec", "\u06607"}, {"dec", "\u22127"}, {"dec", "\u00a07"},
	} {
		if n, e := Read(c.kind, []byte(c.b)); n != 0 || e != api.ErrForm {
			t.Errorf("Read(%q, %q) = %d, %d; not ErrForm", c.kind, c.b, n, e)
		}
	}
}

// Promise 6.1: one and two bytes, all there are, are read as in the model.
func TestReadAllShort(t *testing.T) {
	for _, kind := range kinds() {
		for v := range 65536 {
			for _, b := range [][]byte{{byte(v)}, {byte(v >> 8), byte(v)}} {
				got, e := Read(kind, b)
				if want, fault := model(kind, b); got != want || e != fault {
					t.Fatalf("Read(%q, %x) = %d, %d; not %d, %d", kind, b, got, e, want, fault)
				}
			}
		}
	}
}

// Promise 6.1: longer ones, of any bytes, and of those that dec and bcd have, or nearly.
func TestReadLonger(t *testing.T) {
	random := rand.New(rand.NewSource(66))
	letters := [][]byte{nil, []byte("0123456789"), []byte(" 07"), []byte(" -19"), []byte("  -0123456789a"), {0x00, 0x09, 0x12, 0x34, 0x90, 0x99}, {0x00, 0x09, 0x0a, 0x90, 0xa0, 0x99}, {0x00, 0x7f, 0x80, 0xff}}
	for _, r := range document() {
		right := 0
		for i := range 40000 {
			b := make([]byte, r.width)
			random.Read(b)
			if from := letters[i%len(letters)]; from != nil {
				for at := range b {
					b[at] = from[int(b[at])%len(from)]
				}
			}
			got, e := Read(r.kind, b)
			want, fault := model(r.kind, b)
			if got != want || e != fault {
				t.Fatalf("Read(%q, %q) = %d, %d; not %d, %d", r.kind, b, got, e, want, fault)
			}
			if got < r.least || got > r.greatest {
				t.Fatalf("Read(%q, %q) = %d, beyond the ends", r.kind, b, got)
			}
			if e == api.OK {
				right++
			}
		}
		if right < 1000 {
			t.Errorf("%s of width %d: only %d were right", r.kind, r.width, right)
		}
	}
}

// Promise 6.1: dec of every mixture of a blank, a -, two digits and another byte, up to six of them.
func TestReadMixturesOfDec(t *testing.T) {
	lists := []string{""}
	for range 6 {
		var longer []string
		for _, b := range lists {
			for _, c := range " -09x" {
				longer = append(longer, b+string(c))
			}
		}
		lists = longer
		for _, b := range lists {
			got, e := Read("dec", []byte(b))
			if want, fault := model("dec", []byte(b)); got != want || e != fault {
				t.Fatalf("Read(dec, %q) = %d, %d; not %d, %d", b, got, e, want, fault)
			}
		}
	}
}

// Promise 6.1: ErrArg of another kind, or so many bytes, whatever form they are of.
func TestReadArguments(t *testing.T) {
	for _, kind := range append(kinds(), absent()...) {
		for _, width := range []int{0, 1, 2, 3, 4, 5, 6, 7, 8, 9, 10, 16, 255, 256, 257, 260, 1 << 16, 1<<16 + 1} {
			if there(kind, width) {
				continue
			}
			for _, c := range []byte{0, ' ', '-', '7', 0x99, 0xaa, 0xff} {
				if n, e := Read(kind, bytes.Repeat([]byte{c}, width)); n != 0 || e != api.ErrArg {
					t.Errorf("Read(%.30q, %d times %x) = %d, %d; not ErrArg", kind, width, c, n, e)
				}
			}
		}
		if n, e := Read(kind, nil); n != 0 || e != api.ErrArg {
			t.Errorf("Read(%.30q, nil) = %d, %d; not ErrArg", kind, n, e)
		}
	}
}

// Promise 6.1: what is handed in stays, and the room behind it isn't looked at.
func TestReadChangesNothing(t *testing.T) {
	for _, r := range document() {
		for _, n := range []int64{r.least, 0, 1, r.greatest} {
			b := withRoom(written(r.kind, r.width, n))
			all := bytes.Clone(b[:cap(b)])
			if got, e := Read(r.kind, b); got != n || e != api.OK {
				t.Errorf("Read(%q, %x) = %d, %d; not %d", r.kind, b, got, e, n)
			}
			if !bytes.Equal(b[:cap(b)], all) {
				t.Errorf("%s: %x was changed to %x", r.kind, all, b[:cap(b)])
			}
		}
	}
}

// Promise 6.2: bytes written out.
func TestWriteExamples(t *testing.T) {
	for _, c := range []struct {
		kind  string
		width int
		n     int64
		want  string
	}{
		{"be", 1, 0, "\x00"}, {"be", 1, 255, "\xff"}, {"be", 2, 258, "\x01\x02"}, {"be", 3, 258, "\x00\x01\x02"}, {"be", 4, 16909060, "\x01\x02\x03\x04"}, {"be", 4, 4294967295, "\xff\xff\xff\xff"},
		{"le", 1, 255, "\xff"}, {"le", 2, 258, "\x02\x01"}, {"le", 3, 258, "\x02\x01\x00"}, {"le", 4, 16909060, "\x04\x03\x02\x01"}, {"le", 4, 2147483648, "\x00\x00\x00\x80"},
		{"sbe", 1, -1, "\xff"}, {"sbe", 1, -128, "\x80"}, {"sbe", 1, 127, "\x7f"}, {"sbe", 2, -2, "\xff\xfe"}, {"sbe", 2, 2, "\x00\x02"}, {"sbe", 3, -256, "\xff\xff\x00"}, {"sbe", 4, -2147483648, "\x80\x00\x00\x00"},
		{"sle", 2, -2, "\xfe\xff"}, {"sle", 2, 2, "\x02\x00"}, {"sle", 3, -256, "\x00\xff\xff"}, {"sle", 4, -2147483648, "\x00\x00\x00\x80"}, {"sle", 4, 2147483647, "\xff\xff\xff\x7f"},
		{"bcd", 1, 0, "\x00"}, {"bcd", 1, 9, "\x09"}, {"bcd", 1, 10, "\x10"}, {"bcd", 1, 99, "\x99"}, {"bcd", 2, 1290, "\x12\x90"}, {"bcd", 3, 102, "\x00\x01\x02"}, {"bcd", 4, 12345678, "\x12\x34\x56\x78"},
		{"dec", 1, 0, "0"}, {"dec", 1, 9, "9"}, {"dec", 2, 0, " 0"}, {"dec", 2, -9, "-9"}, {"dec", 2, 99, "99"}, {"dec", 4, -42, " -42"}, {"dec", 4, 42, "  42"}, {"dec", 4, 100, " 100"}, {"dec", 8, 0, "       0"}, {"dec", 8, -1, "      -1"}, {"dec", 8, 12345678, "12345678"}, {"dec", 8, -9999999, "-9999999"},
	} {
		if b, e := Write(c.kind, c.width, c.n); string(b) != c.want || e != api.OK {
			t.Errorf("Write(%q, %d, %d) = %q, %d; not %q", c.kind, c.width, c.n, b, e, c.want)
		}
	}
}

// Promise 6.2: numbers of every kind and width are written as by the model, and (6.3) read as they were.
func TestThereAndBack(t *testing.T) {
	for _, r := range document() {
		for _, n := range numbers(r) {
			b, e := Write(r.kind, r.width, n)
			if want := written(r.kind, r.width, n); !bytes.Equal(b, want) || e != api.OK {
				t.Fatalf("Write(%q, %d, %d) = %x, %d; not %x", r.kind, r.width, n, b, e, want)
			}
			if back, fault := Read(r.kind, b); back != n || fault != api.OK {
				t.Fatalf("Read(%q, %x) = %d, %d; it was %d", r.kind, b, back, fault, n)
			}
		}
	}
}

// Promise 6.2: ErrRange of a number beyond the ends, which are themselves written.
func TestWriteBeyond(t *testing.T) {
	for _, r := range document() {
		for _, n := range []int64{r.least, r.greatest} {
			if b, e := Write(r.kind, r.width, n); len(b) != r.width || e != api.OK {
				t.Errorf("Write(%q, %d, %d) = %x, %d", r.kind, r.width, n, b, e)
			}
		}
		beyond := []int64{math.MinInt64, math.MinInt64 + 1, -1 << 32, 1 << 32, 1e8, -1e8, math.MaxInt64 - 1, math.MaxInt64}
		for more := range int64(300) {
			beyond = append(beyond, r.least-1-more, r.greatest+1+more)
		}
		for _, n := range beyond {
			if n >= r.least && n <= r.greatest {
				continue
			}
			if b, e := Write(r.kind, r.width, n); len(b) != 0 || e != api.ErrRange {
				t.Errorf("Write(%q, %d, %d) = %x, %d; not ErrRange", r.kind, r.width, n, b, e)
			}
		}
	}
}

// Promise 6.2: ErrArg of a kind or a width that isn't there, whatever the number is.
func TestWriteArguments(t *testing.T) {
	for _, kind := range append(kinds(), absent()...) {
		for _, width := range append(wrongWidths(), 1, 2, 3, 4, 5, 6, 7, 8) {
			if there(kind, width) {
				continue
			}
			for _, n := range []int64{0, 1, -1, 1000, math.MinInt64, math.MaxInt64} {
				if b, e := Write(kind, width, n); len(b) != 0 || e != api.ErrArg {
					t.Errorf("Write(%.30q, %d, %d) = %x, %d; not ErrArg", kind, width, n, b, e)
				}
			}
		}
	}
}

// Promise 6.2: bytes that were handed out are new memory, spare room included.
func TestWrittenIsNew(t *testing.T) {
	for _, r := range document() {
		for _, n := range []int64{r.least, 0, 1, r.greatest} {
			first, _ := Write(r.kind, r.width, n)
			second, _ := Write(r.kind, r.width, n)
			kept := bytes.Clone(second[:cap(second)])
			room := first[:cap(first)]
			for i := range room {
				room[i] ^= 255
			}
			if !bytes.Equal(second[:cap(second)], kept) {
				t.Errorf("%s: what was written shares its memory", r.kind)
			}
			if third, _ := Write(r.kind, r.width, n); !bytes.Equal(third, second) {
				t.Errorf("Write(%q, %d, %d) = %x; it was %x", r.kind, r.width, n, third, second)
			}
		}
	}
}
