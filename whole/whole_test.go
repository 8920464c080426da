package whole

import (
	"math"
	"math/big"
	"math/rand"
	"regexp"
	"strconv"
	"strings"
	"testing"

	"lancet/api"
)

const (
	least = math.MinInt64
	most  = math.MaxInt64
)

// numbers: the edges, what lies beside them and beside the powers of 2 and of 10, and others of all sizes.
func numbers() []int64 {
	list := []int64{0, 3, 6, 7, 12, 18, 97, 3037000499, 3037000500, 4294967296, least, least + 1, least + 2, most, most - 1, least / 2, least/2 - 1, most / 3}
	for i := range 63 {
		p := int64(1) << i
		list = append(list, p, p-1, p+1, -p, -p-1, -p+1)
	}
	for p, i := int64(1), 0; i < 19; i++ {
		list = append(list, p, p-1, p+1, -p, -p-1, -p+1, 9*p, -9*p)
		p *= 10
	}
	r := rand.New(rand.NewSource(1))
	for range 200 {
		list = append(list, int64(r.Uint64())>>r.Intn(64))
	}
	return list
}

// held holds an answer against the exact number: it and true where 64 bits hold it, else 0 and false.
func held(t *testing.T, call string, exact *big.Int, got int64, ok bool, args ...int64) {
	t.Helper()
	want := int64(0)
	if exact.IsInt64() {
		want = exact.Int64()
	}
	if got != want || ok != exact.IsInt64() {
		t.Errorf("%s%v = %d, %v; exactly %v", call, args, got, ok, exact)
	}
}

// Promise 1.1: Add, Mul and Gcd of all pairs are exact, or 0 and false.
func TestPairsAreExact(t *testing.T) {
	list := numbers()
	for _, a := range list {
		x := big.NewInt(a)
		for _, b := range list {
			y := big.NewInt(b)
			n, ok := Add(a, b)
			held(t, "Add", new(big.Int).Add(x, y), n, ok, a, b)
			n, ok = Mul(a, b)
			held(t, "Mul", new(big.Int).Mul(x, y), n, ok, a, b)
			n, ok = Gcd(a, b)
			held(t, "Gcd", new(big.Int).GCD(nil, nil, new(big.Int).Abs(x), new(big.Int).Abs(y)), n, ok, a, b)
		}
	}
}

// Promise 1.1: Neg is exact, or 0 and false.
func TestNegIsExact(t *testing.T) {
	for _, a := range numbers() {
		n, ok := Neg(a)
		held(t, "Neg", new(big.Int).Neg(big.NewInt(a)), n, ok, a)
	}
}

// Promise 1.1: the edges that the document names, written out.
func TestEdges(t *testing.T) {
	for _, c := range []struct {
		call string
		f    func(a, b int64) (int64, bool)
		a, b int64
		want int64
		ok   bool
	}{
		{"Add", Add, 2, 3, 5, true},
		{"Add", Add, most, 0, most, true},
		{"Add", Add, most, 1, 0, false},
		{"Add", Add, 1, most, 0, false},
		{"Add", Add, most, most, 0, false},
		{"Add", Add, least, 0, least, true},
		{"Add", Add, least, -1, 0, false},
		{"Add", Add, -1, least, 0, false},
		{"Add", Add, least, least, 0, false},
		{"Add", Add, least, most, -1, true},
		{"Mul", Mul, 1 << 32, 1 << 31, 0, false}, // the chapter's example
		{"Mul", Mul, 1 << 32, -(1 << 31), least, true},
		{"Mul", Mul, 1 << 32, 1 << 30, 1 << 62, true},
		{"Mul", Mul, 1 << 32, 1 << 32, 0, false},
		{"Mul", Mul, least, -1, 0, false},
		{"Mul", Mul, -1, least, 0, false},
		{"Mul", Mul, least, 1, least, true},
		{"Mul", Mul, 1, least, least, true},
		{"Mul", Mul, least, 0, 0, true},
		{"Mul", Mul, 0, least, 0, true},
		{"Mul", Mul, most, -1, -most, true},
		{"Mul", Mul, least, least, 0, false},
		{"Gcd", Gcd, 0, 0, 0, true},
		{"Gcd", Gcd, 0, -5, 5, true},
		{"Gcd", Gcd, 5, 0, 5, true},
		{"Gcd", Gcd, -12, 18, 6, true},
		{"Gcd", Gcd, -12, -18, 6, true},
		{"Gcd", Gcd, least, 0, 0, false},
		{"Gcd", Gcd, 0, least, 0, false},
		{"Gcd", Gcd, least, least, 0, false},
		{"Gcd", Gcd, least, 1 << 62, 1 << 62, true},
		{"Gcd", Gcd, least, most, 1, true},
		{"Gcd", Gcd, most, most, most, true},
	} {
		if n, ok := c.f(c.a, c.b); n != c.want || ok != c.ok {
			t.Errorf("%s(%d, %d) = %d, %v; want %d, %v", c.call, c.a, c.b, n, ok, c.want, c.ok)
		}
	}
	if n, ok := Neg(least); n != 0 || ok {
		t.Errorf("Neg(-2^63) = %d, %v", n, ok)
	}
	if n, ok := Neg(most); n != -most || !ok {
		t.Errorf("Neg(2^63 - 1) = %d, %v", n, ok)
	}
}

// Promise 1.2: Text is the number in decimal.
func TestText(t *testing.T) {
	for a, want := range map[int64]string{0: "0", 7: "7", -7: "-7", 10: "10", -100: "-100", 1002003: "1002003", most: "9223372036854775807", least: "-9223372036854775808"} {
		if s := Text(a); s != want {
			t.Errorf("Text(%d) = %q", a, s)
		}
	}
	for _, a := range numbers() {
		if s := Text(a); s != strconv.FormatInt(a, 10) {
			t.Errorf("Text(%d) = %q", a, s)
		}
	}
}

// Promise 1.2: what Read answers, text by text.
func TestRead(t *testing.T) {
	for _, c := range []struct {
		s    string
		want int64
		e    api.Errno
	}{
		{"0", 0, api.OK},
		{"9", 9, api.OK},
		{"-1", -1, api.OK},
		{"10", 10, api.OK},
		{"-9007199254740993", -9007199254740993, api.OK},
		{"9223372036854775807", most, api.OK},
		{"-9223372036854775807", -most, api.OK},
		{"-9223372036854775808", least, api.OK},
		{"9223372036854775808", 0, api.ErrOver},
		{"-9223372036854775809", 0, api.ErrOver},
		{"9223372036854775810", 0, api.ErrOver},
		{"-9223372036854775810", 0, api.ErrOver},
		{"18446744073709551616", 0, api.ErrOver},
		{"-18446744073709551617", 0, api.ErrOver},
		{"1" + strings.Repeat("0", 5000), 0, api.ErrOver},
		{"-" + strings.Repeat("9", 5000), 0, api.ErrOver},
	} {
		if n, e := Read(c.s); n != c.want || e != c.e {
			t.Errorf("Read(%.30q) = %d, %d; want %d, %d", c.s, n, e, c.want, c.e)
		}
	}
}

// Promise 1.2: what is no number's text is ErrForm, however long it is.
func TestReadForm(t *testing.T) {
	for _, s := range []string{
		"", "-", "--1", "-0", "-00", "00", "07", "-07", "+1", "+", "+0", "1-", "-1-", "1-2",
		" 1", "1 ", "-\t1", "1\n", "1\x00", "\x00", "a", "1a", "a1", "0x1", "1_0", "1e3", "1.0", "1,0", "1/2", "1:", ":", "/",
		"\xff", "1\xff", "\xb1", "\uff11", "\u0663", "\u22121", "\u00e9",
		"00000000000000000000", "09223372036854775808", "-09223372036854775809",
		"99999999999999999999x", "x99999999999999999999", "-99999999999999999999-", strings.Repeat("0", 5000), strings.Repeat("9", 5000) + " ",
	} {
		if n, e := Read(s); n != 0 || e != api.ErrForm {
			t.Errorf("Read(%.30q) = %d, %d", s, n, e)
		}
	}
}

// Promise 1.2: over all short texts of telling bytes, the form is that of Text and nothing else.
func TestReadAllShort(t *testing.T) {
	form := regexp.MustCompile(`^(0|-?[1-9][0-9]*)$`)
	const telling = "-+0159/: x\n\x00\xff"
	var try func(s string)
	try = func(s string) {
		n, e := Read(s)
		if form.MatchString(s) {
			if want, _ := strconv.ParseInt(s, 10, 64); n != want || e != api.OK {
				t.Errorf("Read(%q) = %d, %d", s, n, e)
			}
		} else if n != 0 || e != api.ErrForm {
			t.Errorf("Read(%q) = %d, %d", s, n, e)
		}
		if len(s) < 4 {
			for i := range len(telling) {
				try(s + telling[i:i+1])
			}
		}
	}
	try("")
}

// Promise 1.2: around the ends of 64 bits, one by one.
func TestReadBeyond(t *testing.T) {
	for _, end := range []int64{least, most} {
		for i := int64(-2000); i <= 2000; i++ {
			exact := new(big.Int).Add(big.NewInt(end), big.NewInt(i))
			n, e := Read(exact.String())
			if exact.IsInt64() && (n != exact.Int64() || e != api.OK) || !exact.IsInt64() && (n != 0 || e != api.ErrOver) {
				t.Errorf("Read(%v) = %d, %d", exact, n, e)
			}
		}
	}
}

// Promise 1.3: what is written is read as it was.
func TestThereAndBack(t *testing.T) {
	list := numbers()
	for i := range int64(1001) {
		list = append(list, i, -i, most-i, least+i)
	}
	for _, a := range list {
		if n, e := Read(Text(a)); n != a || e != api.OK {
			t.Errorf("Read(Text(%d)) = %d, %d", a, n, e)
		}
	}
}
