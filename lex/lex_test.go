package lex

import (
	"encoding/hex"
	"math"
	"math/big"
	"math/rand"
	"regexp"
	"slices"
	"strconv"
	"strings"
	"testing"

	"lancet/api"
)

// row makes a row of its number and its words.
func row(line int, words ...string) Row { return Row{Line: line, Words: words} }

// same tells whether two lists of rows are alike.
func same(a, b []Row) bool {
	return slices.EqualFunc(a, b, func(x, y Row) bool { return x.Line == y.Line && slices.Equal(x.Words, y.Words) })
}

var (
	otherByte = regexp.MustCompile(`[^\x20-\x7e]`)
	someWord  = regexp.MustCompile(`[^ ]+`)
)

// model: what Rows is to answer, by shapes of texts.
func model(s string) ([]Row, int, api.Errno) {
	if len(s) > 4000 {
		return nil, 0, api.ErrSize
	}
	var rows []Row
	for i, line := range strings.Split(s, "\n") {
		if otherByte.MatchString(line) {
			return nil, i + 1, api.ErrForm
		}
		words := someWord.FindAllString(line, -1)
		if len(words) > 0 && words[0][0] != '#' {
			rows = append(rows, Row{i + 1, words})
		}
	}
	return rows, 0, api.OK
}

// held holds what Rows answers against the model.
func held(t *testing.T, s string) {
	t.Helper()
	rows, at, e := Rows(s)
	want, place, fault := model(s)
	if !same(rows, want) || at != place || e != fault {
		t.Errorf("Rows(%.60q) = %v, %d, %d; not %v, %d, %d", s, rows, at, e, want, place, fault)
	}
}

// Promise 7.1: the chapter's example.
func TestExample(t *testing.T) {
	rows, at, e := Rows("a b\n# c")
	if !same(rows, []Row{row(1, "a", "b")}) || at != 0 || e != api.OK {
		t.Errorf("Rows = %v, %d, %d", rows, at, e)
	}
}

// Promise 7.1: the lines that count, by their numbers.
func TestRows(t *testing.T) {
	for _, c := range []struct {
		s    string
		want []Row
	}{
		{"", nil},
		{" ", nil},
		{"\n", nil},
		{"\n\n  \n", nil},
		{"#", nil},
		{"#a b", nil},
		{"  #a b", nil},
		{"# a\n#b\n ## c", nil},
		{"a", []Row{row(1, "a")}},
		{"a\n", []Row{row(1, "a")}},
		{"\na", []Row{row(2, "a")}},
		{"\n\n\na\n\n", []Row{row(4, "a")}},
		{"a\nb", []Row{row(1, "a"), row(2, "b")}},
		{"a\n\nb\n", []Row{row(1, "a"), row(3, "b")}},
		{"a\n# x\n   \nb c d", []Row{row(1, "a"), row(4, "b", "c", "d")}},
		{"a #b", []Row{row(1, "a", "#b")}},
		{"a # b", []Row{row(1, "a", "#", "b")}},
		{"a# b", []Row{row(1, "a#", "b")}},
		{"a a a", []Row{row(1, "a", "a", "a")}},
		{"a\na", []Row{row(1, "a"), row(2, "a")}},
		{"!\"$%&'()*+,-./ 0:;<=>?@A [\\]^_` z{|}~", []Row{row(1, "!\"$%&'()*+,-./", "0:;<=>?@A", "[\\]^_`", "z{|}~")}},
		{"a\\nb //c ;d", []Row{row(1, "a\\nb", "//c", ";d")}},
	} {
		rows, at, e := Rows(c.s)
		if !same(rows, c.want) || at != 0 || e != api.OK {
			t.Errorf("Rows(%q) = %v, %d, %d; not %v", c.s, rows, at, e, c.want)
		}
	}
}

// Promise 7.1: a text has at most 4000 bytes; of a longer one ErrSize, at 0, whatever stands in it.
func TestRowsSize(t *testing.T) {
	for _, c := range []string{"a", " ", "\n", "#", "a ", "a\n", "ab\n#\n"} {
		whole := strings.Repeat(c, 4000)[:4000]
		held(t, whole)
		held(t, whole[:3999])
		if rows, at, e := Rows(whole); at != 0 || e != api.OK {
			t.Errorf("Rows(4000 bytes of %q) = %v, %d, %d", c, rows, at, e)
		}
		for _, longer := range []string{whole + "a", whole + " ", whole + "\n", whole + "\t", "\x00" + whole, whole + whole, strings.Repeat("\xff", 4001), strings.Repeat(whole, 100)} {
			if rows, at, e := Rows(longer); len(rows) != 0 || at != 0 || e != api.ErrSize {
				t.Errorf("Rows(%d bytes of %q) = %v, %d, %d; not ErrSize", len(longer), c, rows, at, e)
			}
		}
	}
	// Bytes are counted, not letters: 1334 letters of three bytes each are too many, 1333 are only wrong.
	if _, at, e := Rows(strings.Repeat("\u20ac", 1334)); at != 0 || e != api.ErrSize {
		t.Errorf("Rows of 4002 bytes = %d, %d", at, e)
	}
	if _, at, e := Rows(strings.Repeat("\u20ac", 1333)); at != 1 || e != api.ErrForm {
		t.Errorf("Rows of 3999 bytes = %d, %d", at, e)
	}
	if rows, _, e := Rows(strings.Repeat("a\n", 2000)); len(rows) != 2000 || rows[1999].Line != 2000 || e != api.OK {
		t.Errorf("%d rows, %d", len(rows), e)
	}
	if rows, _, e := Rows(strings.Repeat("a ", 2000)); len(rows) != 1 || len(rows[0].Words) != 2000 || e != api.OK {
		t.Errorf("%d rows, %d", len(rows), e)
	}
	if rows, at, e := Rows(strings.Repeat("\n", 3999) + "a"); !same(rows, []Row{row(4000, "a")}) || at != 0 || e != api.OK {
		t.Errorf("%v, %d, %d", rows, at, e)
	}
	if _, at, e := Rows(strings.Repeat("\n", 3999) + "\r"); at != 4000 || e != api.ErrForm {
		t.Errorf("%d, %d", at, e)
	}
}

// Promise 7.1: each byte by itself, in each place of a line: those from 32 to 126 and the line end are right, no other.
func TestRowsBytes(t *testing.T) {
	for v := range 256 {
		c := string([]byte{byte(v)})
		right := v == 10 || v >= 32 && v <= 126
		for _, s := range []string{c, c + "a", "a" + c, "a" + c + "b", " " + c + " ", "#" + c, "# " + c + "\nb"} {
			rows, at, e := Rows(s)
			if right && (at != 0 || e != api.OK) || !right && (len(rows) != 0 || at != 1 || e != api.ErrForm) {
				t.Errorf("Rows(%q) = %v, %d, %d", s, rows, at, e)
			}
			held(t, s)
		}
	}
}

// Promise 7.1: ErrForm tells the first line with another byte, be it one that counts or not.
func TestRowsFirstFault(t *testing.T) {
	for _, c := range []struct {
		s  string
		at int
	}{
		{"\t", 1}, {"a\tb", 1}, {"a\r\nb", 1}, {"a\nb\tc", 2}, {"a\nb\r\nc\r\n", 2}, {"\n\n\n\x00", 4}, {"a\n\x7f\n", 2},
		{"# \t\na", 1}, {"a\n#\x1f", 2}, {"a\n   \x01  \nb\x01", 2}, {"a\n\u00e9\n\xff", 2}, {"a\nb\nc\xff", 3}, {"\n\u00a0", 2}, {"\u2028", 1}, {"\v\n\f", 1}, {"a\n\n\x80\n\x81\n", 3}, {"\ufeffa", 1},
	} {
		if rows, at, e := Rows(c.s); len(rows) != 0 || at != c.at || e != api.ErrForm {
			t.Errorf("Rows(%q) = %v, %d, %d; not at %d", c.s, rows, at, e, c.at)
		}
	}
}

// Promise 7.1: all texts of few bytes that tell, and longer ones by chance, are as in the model.
func TestRowsAll(t *testing.T) {
	const telling = "a# \n\t!"
	var try func(s string)
	try = func(s string) {
		held(t, s)
		if len(s) < 6 {
			for i := range len(telling) {
				try(s + telling[i:i+1])
			}
		}
	}
	try("")
	r := rand.New(rand.NewSource(7))
	for range 3000 {
		b := make([]byte, r.Intn(400))
		for i := range b {
			b[i] = "ab#  \n09~!"[r.Intn(10)]
			if r.Intn(500) == 0 {
				b[i] = byte(r.Intn(256))
			}
		}
		held(t, string(b))
	}
}

// Promise 7.1: what is handed out is new memory, spare room included.
func TestRowsAreNew(t *testing.T) {
	const s = "a b c\nd e\n#\nf\ng h i j k"
	want, _, _ := model(s)
	first, _, _ := Rows(s)
	second, _, _ := Rows(s)
	for i := range first {
		for j := range first {
			if j != i {
				room := first[j].Words[:cap(first[j].Words)]
				for k := range room {
					room[k] = "x"
				}
			}
		}
		if !slices.Equal(first[i].Words, want[i].Words) {
			t.Errorf("row %d shares its memory: %q", i, first[i].Words)
		}
		first, _, _ = Rows(s)
	}
	rows := first[:cap(first)]
	for i := range rows {
		rows[i] = row(99, "x")
	}
	if third, _, _ := Rows(s); !same(second, want) || !same(third, want) {
		t.Errorf("%v, %v; not %v", second, third, want)
	}
}

// Promise 7.2: what is a number from least to most.
func TestNumber(t *testing.T) {
	for _, c := range []struct {
		w           string
		least, most int
		want        int
		ok          bool
	}{
		{"42", 0, 42, 42, true}, {"42", 42, 42, 42, true}, {"42", 42, 100, 42, true}, {"42", 0, 41, 0, false}, {"42", 43, 100, 0, false},
		{"0", 0, 0, 0, true}, {"0", 1, 9, 0, false}, {"0", -9, -1, 0, false}, {"0", -1, 1, 0, true},
		{"-1", -1, 0, -1, true}, {"-1", 0, 9, 0, false}, {"-7", -9, -7, -7, true}, {"-7", -6, 9, 0, false}, {"-7", -9, -8, 0, false},
		{"5", 9, 1, 0, false}, {"9", 9, 1, 0, false}, {"1", 9, 1, 0, false}, {"5", math.MaxInt, math.MinInt, 0, false},
		{"1000", 1, 1000, 1000, true}, {"1001", 1, 1000, 0, false},
		{"9223372036854775807", math.MinInt, math.MaxInt, math.MaxInt, true}, {"-9223372036854775808", math.MinInt, math.MaxInt, math.MinInt, true},
		{"9223372036854775807", math.MinInt, math.MaxInt - 1, 0, false}, {"-9223372036854775808", math.MinInt + 1, math.MaxInt, 0, false},
		{"9223372036854775808", math.MinInt, math.MaxInt, 0, false}, {"-9223372036854775809", math.MinInt, math.MaxInt, 0, false},
		{"18446744073709551616", math.MinInt, math.MaxInt, 0, false}, {"18446744073709551658", 0, 42, 0, false}, {"4294967338", 0, 42, 0, false},
		{"1" + strings.Repeat("0", 5000), math.MinInt, math.MaxInt, 0, false},
	} {
		if n, ok := Number(c.w, c.least, c.most); n != c.want || ok != c.ok {
			t.Errorf("Number(%.30q, %d, %d) = %d, %v; not %d, %v", c.w, c.least, c.most, n, ok, c.want, c.ok)
		}
	}
}

// Promise 7.2: what is no number's text is none, whatever the ends are.
func TestNumberForm(t *testing.T) {
	for _, w := range []string{"", " ", "-", "+", "+1", "-0", "00", "01", "-01", "007", "1 ", " 1", "1\n", "1\t", "\x001", "1.0", "1e1", "0x1", "1_0", "1,0", "1/1", "a", "1a", "a1", "--1", "1-", "#1", "\xff", "\uff11", "\u0661", "\u22121", strings.Repeat("0", 5000)} {
		for _, ends := range [][2]int{{0, 0}, {-100, 100}, {math.MinInt, math.MaxInt}, {9, 1}} {
			if n, ok := Number(w, ends[0], ends[1]); n != 0 || ok {
				t.Errorf("Number(%.30q, %d, %d) = %d, %v", w, ends[0], ends[1], n, ok)
			}
		}
	}
}

// Promise 7.2: numbers near each other and near the ends, each as least, as most and as the number.
func TestNumberEnds(t *testing.T) {
	var list []int
	for i := range 4 {
		list = append(list, i, -i, 1000+i, -1000-i, 1<<31+i, -1<<31-i, math.MaxInt-i, math.MinInt+i)
	}
	for _, n := range list {
		for _, least := range list {
			for _, most := range list {
				want, inside := 0, least <= n && n <= most
				if inside {
					want = n
				}
				if got, ok := Number(strconv.Itoa(n), least, most); got != want || ok != inside {
					t.Fatalf("Number(%d, %d, %d) = %d, %v", n, least, most, got, ok)
				}
			}
		}
	}
	for i := range int64(200) {
		for _, w := range []string{new(big.Int).Add(big.NewInt(math.MaxInt64), big.NewInt(1+i)).String(), new(big.Int).Sub(big.NewInt(math.MinInt64), big.NewInt(1+i)).String()} {
			if n, ok := Number(w, math.MinInt, math.MaxInt); n != 0 || ok {
				t.Errorf("Number(%s) = %d, %v", w, n, ok)
			}
		}
	}
}

// Promise 7.2: bytes, written out.
func TestHex(t *testing.T) {
	for w, want := range map[string]string{"00": "\x00", "02": "\x02", "ff": "\xff", "0f": "\x0f", "f0": "\xf0", "9a": "\x9a", "a9": "\xa9", "1b20": "\x1b ", "000000": "\x00\x00\x00", "0123456789abcdef": "\x01\x23\x45\x67\x89\xab\xcd\xef", strings.Repeat("6a", 5000): strings.Repeat("j", 5000)} {
		if b, ok := Hex(w); string(b) != want || !ok {
			t.Errorf("Hex(%.30q) = %.30x, %v", w, b, ok)
		}
	}
	for _, w := range []string{"", "0", "f", "000", "1b2", "1B", "FF", "aB", "Ab", "xx", "0x", "0x1b", "0g", "g0", "0/", "/0", "0:", ":0", "0`", "`0", "0@", "@0", "1b 20", " 1b", "1b ", "  ", "1b\n", "1b\n0", "1bzz", "zz1b", "1b2g", "-1", "+1", "\x00\x00", "\xff\xff", "0\x00", "\uff11", "\u00e9", "\u0661", strings.Repeat("6a", 5000) + "6", strings.Repeat("6a", 5000) + "6A"} {
		if b, ok := Hex(w); len(b) != 0 || ok {
			t.Errorf("Hex(%.30q) = %x, %v", w, b, ok)
		}
	}
}

// Promise 7.2: all pairs of bytes, alone and among others: digits are 0 to 9 and a to f.
func TestHexPairs(t *testing.T) {
	form := regexp.MustCompile(`\A([0-9a-f]{2})+\z`)
	for v := range 65536 {
		pair := string([]byte{byte(v >> 8), byte(v)})
		for _, w := range []string{pair, "1b" + pair, pair + "c2", "0" + pair, pair[:1], "0" + pair + "0"} {
			b, ok := Hex(w)
			if right := form.MatchString(w); ok != right || !right && len(b) != 0 || right && hex.EncodeToString(b) != w {
				t.Fatalf("Hex(%q) = %x, %v", w, b, ok)
			}
		}
	}
}

// Promise 7.2: bytes handed out are new memory, spare room included.
func TestHexIsNew(t *testing.T) {
	first, _ := Hex("1b20")
	second, _ := Hex("1b20")
	room := first[:cap(first)]
	for i := range room {
		room[i] = 0
	}
	if third, _ := Hex("1b20"); string(second) != "\x1b " || string(third) != "\x1b " {
		t.Errorf("%x, %x", second, third)
	}
}

// Promise 7.2: which words are names.
func TestName(t *testing.T) {
	for _, w := range []string{"a", "z", "pump", "pump1", "a0", "z9", "p1u2m3p4", "a00000000000", "abcdefghijkl", "nopqrstuvwxy", "zzzzzzzzzzz9"} {
		if !Name(w) {
			t.Errorf("Name(%q) is false", w)
		}
	}
	for _, w := range []string{"", "0", "9", "1pump", "0a", "Pump", "pumP", "PUMP", "pu mp", " pump", "pump ", "pump\n", "pu-mp", "-pump", "pu_mp", "_pump", "pu.mp", "#pump", "pump#", "a`", "`", "a{", "{", "a/", "/", "a:", ":", "a@", "@", "\x00", "a\x00", "a\xff", "\xff", "\x80a", "\xe1", "a\xe1", "\u00e9", "a\u00e9", "caf\u00e9", "\u0430", "a\u0661", "\uff41", "a\ufffd", "\u017f", "\u212a", "abcdefghijklm", "a000000000000", "abcdefghijkl\n", "abcdefghijk\u00e9", "\u00e9\u00e9\u00e9\u00e9\u00e9\u00e9", strings.Repeat("a", 256), strings.Repeat("a", 257), strings.Repeat("a", 268), strings.Repeat("a", 5000)} {
		if Name(w) {
			t.Errorf("Name(%.30q) is true", w)
		}
	}
}

// Promise 7.2: all pairs of bytes, and every length, against the shape of a name.
func TestNameShape(t *testing.T) {
	form := regexp.MustCompile(`\A[a-z][a-z0-9]{0,11}\z`)
	for v := range 65536 {
		first, last := string([]byte{byte(v >> 8)}), string([]byte{byte(v)})
		for _, w := range []string{first, first + last, "a" + first + last, first + "bcdefghijk" + last, first + "bcdefghijkl" + last} {
			if Name(w) != form.MatchString(w) {
				t.Fatalf("Name(%q) = %v", w, Name(w))
			}
		}
	}
	for n := range 40 {
		if w := strings.Repeat("a", n); Name(w) != (n >= 1 && n <= 12) {
			t.Errorf("Name of %d letters = %v", n, Name(w))
		}
	}
}

// spread writes the words of lines with blanks by chance: ahead and behind none or some, between one or more.
func spread(r *rand.Rand, text [][]string) string {
	var b strings.Builder
	for i, words := range text {
		if i > 0 {
			b.WriteByte('\n')
		}
		b.WriteString(strings.Repeat(" ", r.Intn(4)))
		for j, w := range words {
			if j > 0 {
				b.WriteString(strings.Repeat(" ", 1+r.Intn(4)))
			}
			b.WriteString(w)
		}
		b.WriteString(strings.Repeat(" ", r.Intn(4)))
	}
	return b.String()
}

// Promise 7.3: more blanks or fewer make no difference, in lines that count, in others, and in wrong ones.
func TestBlanks(t *testing.T) {
	r := rand.New(rand.NewSource(73))
	some := []string{"a", "device", "pump", "#", "#x", "a#", "1b20", "-7", "~", "!", "\x7f"}
	for range 500 {
		text := make([][]string, r.Intn(10))
		for i := range text {
			for range r.Intn(5) {
				text[i] = append(text[i], some[r.Intn(len(some)-1)])
			}
		}
		if r.Intn(4) == 0 && len(text) > 0 {
			i := r.Intn(len(text))
			text[i] = append(text[i], some[len(some)-1])
		}
		rows, at, e := Rows(spread(r, text))
		for range 10 {
			s := spread(r, text)
			if again, place, fault := Rows(s); !same(again, rows) || place != at || fault != e {
				t.Fatalf("Rows(%q) = %v, %d, %d; with other blanks %v, %d, %d", s, again, place, fault, rows, at, e)
			}
		}
	}
}

// Promise 7.3: by hand, with the rows written out.
func TestBlanksByHand(t *testing.T) {
	want := []Row{row(1, "a", "b"), row(3, "c")}
	for _, s := range []string{"a b\n\nc", "  a b\n\nc", "a b   \n\nc", "a     b\n\nc", "a b\n   \nc", "a b\n\n c ", "   a   b   \n   \n   c   ", "a b\n #\nc", "a b\n#  x\nc"} {
		if rows, at, e := Rows(s); !same(rows, want) || at != 0 || e != api.OK {
			t.Errorf("Rows(%q) = %v, %d, %d", s, rows, at, e)
		}
	}
	// Where there is no blank, one makes two words of one.
	if rows, _, _ := Rows("ab\nc # d"); !same(rows, []Row{row(1, "ab"), row(2, "c", "#", "d")}) {
		t.Errorf("%v", rows)
	}
}
