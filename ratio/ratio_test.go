package ratio

import (
	"math"
	"math/big"
	"math/rand"
	"regexp"
	"testing"

	"lancet/api"
)

const (
	least = math.MinInt64
	most  = math.MaxInt64
)

// numbers: the edges, what lies beside them and beside powers of 2, numbers with common divisors, and others of all sizes.
func numbers() []int64 {
	list := []int64{least, least + 1, least + 2, least / 2, least/2 - 1, least / 3, most, most - 1, most / 2, most / 3, most / 7, 3037000499, 3037000500, 4294967296, 6700417 * 641, 9223372036854775783}
	for i := int64(-12); i <= 12; i++ {
		list = append(list, i)
	}
	for _, shift := range []int{8, 20, 31, 32, 40, 61, 62} {
		p := int64(1) << shift
		list = append(list, p, p-1, p+1, -p, -p-1, -p+1)
	}
	r := rand.New(rand.NewSource(2))
	for range 60 {
		list = append(list, int64(r.Uint64())>>r.Intn(64))
	}
	return list
}

// fractions: right ones, made of numbers by exact numbers alone.
func fractions() []api.Ratio {
	list := []api.Ratio{{N: 0, D: 1}, {N: 1, D: 1}, {N: -1, D: 1}, {N: least, D: 1}, {N: most, D: 1}, {N: 1, D: most}, {N: -1, D: most}, {N: least, D: most}, {N: most - 1, D: most}, {N: most, D: most - 1}, {N: least, D: 3}, {N: least, D: most - 2}, {N: 1, D: 1 << 62}, {N: 3, D: 1 << 62}, {N: most, D: 1 << 62}, {N: 1 << 62, D: most}}
	r := rand.New(rand.NewSource(3))
	ns := numbers()
	for len(list) < 400 {
		n, d := ns[r.Intn(len(ns))], ns[r.Intn(len(ns))]
		if d == 0 {
			continue
		}
		q := new(big.Rat).SetFrac(big.NewInt(n), big.NewInt(d))
		if q.Num().IsInt64() && q.Denom().IsInt64() {
			list = append(list, api.Ratio{N: q.Num().Int64(), D: q.Denom().Int64()})
		}
	}
	return list
}

// wrong: fractions that aren't right.
func wrong() []api.Ratio {
	return []api.Ratio{{}, {N: 1}, {N: -1}, {N: least}, {N: 0, D: 2}, {N: 0, D: -1}, {N: 0, D: most}, {N: 0, D: least}, {N: 2, D: 4}, {N: -6, D: 3}, {N: 3, D: 3}, {N: 1, D: -2}, {N: -1, D: -1}, {N: 1, D: -1}, {N: 1, D: least}, {N: 3, D: least}, {N: least, D: least}, {N: least, D: 2}, {N: least, D: -1}, {N: most, D: most}, {N: most, D: 7}}
}

// exact is a fraction as an exact number.
func exact(a api.Ratio) *big.Rat {
	return new(big.Rat).SetFrac(big.NewInt(a.N), big.NewInt(a.D))
}

// held holds an answer against the exact fraction: it where 64 bits hold both of its numbers and those on the way, else nothing and ErrOver.
func held(t *testing.T, call string, want *big.Rat, way []*big.Int, got api.Ratio, e api.Errno, args ...any) {
	t.Helper()
	fits := want.Num().IsInt64() && want.Denom().IsInt64()
	for _, n := range way {
		fits = fits && n.IsInt64()
	}
	wanted, fault := api.Ratio{}, api.ErrOver
	if fits {
		wanted, fault = api.Ratio{N: want.Num().Int64(), D: want.Denom().Int64()}, api.OK
	}
	if got != wanted || e != fault {
		t.Errorf("%s%v = %v, %d; exactly %v", call, args, got, e, want)
	}
}

// Promise 2.1: what Right says is what the head of the chapter says, of all pairs of numbers.
func TestRight(t *testing.T) {
	list := numbers()
	for _, n := range list {
		for _, d := range list {
			common := new(big.Int).GCD(nil, nil, new(big.Int).Abs(big.NewInt(n)), new(big.Int).Abs(big.NewInt(d)))
			want := d > 0 && common.Cmp(big.NewInt(1)) == 0
			if got := Right(api.Ratio{N: n, D: d}); got != want {
				t.Errorf("Right(%d/%d) = %v", n, d, got)
			}
		}
	}
	for _, a := range wrong() {
		if Right(a) {
			t.Errorf("Right(%v)", a)
		}
	}
	for _, a := range fractions() {
		if !Right(a) {
			t.Errorf("not Right(%v)", a)
		}
	}
}

// Promises 2.1 and 2.4: Make of all pairs is exact, or ErrZero, or ErrOver.
func TestMakeIsExact(t *testing.T) {
	list := numbers()
	for _, n := range list {
		for _, d := range list {
			got, e := Make(n, d)
			if d == 0 {
				if got != (api.Ratio{}) || e != api.ErrZero {
					t.Errorf("Make(%d, 0) = %v, %d", n, got, e)
				}
				continue
			}
			held(t, "Make", exact(api.Ratio{N: n, D: d}), nil, got, e, n, d)
		}
	}
}

// Promise 2.1: the edges of Make, written out.
func TestMakeEdges(t *testing.T) {
	for _, c := range []struct {
		n, d int64
		want api.Ratio
		e    api.Errno
	}{
		{6, 4, api.Ratio{N: 3, D: 2}, api.OK},
		{-6, -4, api.Ratio{N: 3, D: 2}, api.OK},
		{6, -4, api.Ratio{N: -3, D: 2}, api.OK},
		{0, 9, api.Ratio{N: 0, D: 1}, api.OK},
		{0, least, api.Ratio{N: 0, D: 1}, api.OK},
		{0, 0, api.Ratio{}, api.ErrZero},
		{least, 0, api.Ratio{}, api.ErrZero},
		{least, least, api.Ratio{N: 1, D: 1}, api.OK},
		{least, 1, api.Ratio{N: least, D: 1}, api.OK},
		{least, -1, api.Ratio{}, api.ErrOver},
		{least, -3, api.Ratio{}, api.ErrOver},
		{least, -2, api.Ratio{N: 1 << 62, D: 1}, api.OK},
		{1, least, api.Ratio{}, api.ErrOver},
		{-1, least, api.Ratio{}, api.ErrOver},
		{most, least, api.Ratio{}, api.ErrOver},
		{-2, least, api.Ratio{N: 1, D: 1 << 62}, api.OK},
		{most, -most, api.Ratio{N: -1, D: 1}, api.OK},
		{least, most, api.Ratio{N: least, D: most}, api.OK},
		{-most, -1, api.Ratio{N: most, D: 1}, api.OK},
	} {
		if got, e := Make(c.n, c.d); got != c.want || e != c.e {
			t.Errorf("Make(%d, %d) = %v, %d; not %v, %d", c.n, c.d, got, e, c.want, c.e)
		}
	}
}

// sumsWay: the four numbers that Add's words name.
func sumsWay(a, b api.Ratio) []*big.Int {
	d, e := big.NewInt(a.D), big.NewInt(b.D)
	common := new(big.Int).GCD(nil, nil, d, e)
	over := func(x, y *big.Int) *big.Int {
		p := new(big.Int).Mul(x, y)
		return p.Quo(p, common)
	}
	first, second := over(big.NewInt(a.N), e), over(big.NewInt(b.N), d)
	return []*big.Int{first, second, new(big.Int).Add(first, second), over(d, e)}
}

// Promises 2.2 and 2.4: Add, Mul and Less of all pairs are exact, or ErrOver where a number is beyond that the chapter names.
func TestPairsAreExact(t *testing.T) {
	list := fractions()
	for _, a := range list {
		for _, b := range list {
			sum, e := Add(a, b)
			held(t, "Add", new(big.Rat).Add(exact(a), exact(b)), sumsWay(a, b), sum, e, a, b)
			product, e := Mul(a, b)
			held(t, "Mul", new(big.Rat).Mul(exact(a), exact(b)), nil, product, e, a, b)
			if got, want := Less(a, b), exact(a).Cmp(exact(b)) < 0; got != want {
				t.Errorf("Less(%v, %v) = %v", a, b, got)
			}
		}
	}
}

// Promise 2.2: edges of Add, written out; the first is the chapter's example.
func TestAddEdges(t *testing.T) {
	for _, c := range []struct {
		a, b, want api.Ratio
		e          api.Errno
	}{
		{api.Ratio{N: 1, D: 2}, api.Ratio{N: 1, D: 3}, api.Ratio{N: 5, D: 6}, api.OK},
		{api.Ratio{N: 1, D: 6}, api.Ratio{N: 1, D: 3}, api.Ratio{N: 1, D: 2}, api.OK},
		{api.Ratio{N: 1, D: 2}, api.Ratio{N: -1, D: 2}, api.Ratio{N: 0, D: 1}, api.OK},
		{api.Ratio{N: most, D: 1}, api.Ratio{N: 1, D: 1}, api.Ratio{}, api.ErrOver},
		{api.Ratio{N: most, D: 1}, api.Ratio{N: least, D: 1}, api.Ratio{N: -1, D: 1}, api.OK},
		// A shared lower number is no part of what is multiplied.
		{api.Ratio{N: 1, D: most}, api.Ratio{N: 1, D: most}, api.Ratio{N: 2, D: most}, api.OK},
		// The product of the lower numbers alone is beyond.
		{api.Ratio{N: 1, D: most}, api.Ratio{N: 1, D: 2}, api.Ratio{}, api.ErrOver},
		{api.Ratio{N: 0, D: 1}, api.Ratio{N: 1, D: most}, api.Ratio{N: 1, D: most}, api.OK},
		// The sum fits, but a product on the way doesn't.
		{api.Ratio{N: most, D: 1}, api.Ratio{N: -1, D: 2}, api.Ratio{}, api.ErrOver},
		{api.Ratio{N: -1, D: 2}, api.Ratio{N: most, D: 1}, api.Ratio{}, api.ErrOver},
		// The fraction made right fits, but the sum on the way doesn't.
		{api.Ratio{N: 5534023222112865485, D: 6}, api.Ratio{N: 4611686018427387905, D: 6}, api.Ratio{}, api.ErrOver},
	} {
		if got, e := Add(c.a, c.b); got != c.want || e != c.e {
			t.Errorf("Add(%v, %v) = %v, %d; not %v, %d", c.a, c.b, got, e, c.want, c.e)
		}
	}
}

// Promise 2.2: edges of Mul, written out.
func TestMulEdges(t *testing.T) {
	for _, c := range []struct {
		a, b, want api.Ratio
		e          api.Errno
	}{
		{api.Ratio{N: 2, D: 3}, api.Ratio{N: 9, D: 4}, api.Ratio{N: 3, D: 2}, api.OK},
		{api.Ratio{N: 0, D: 1}, api.Ratio{N: most, D: 1 << 62}, api.Ratio{N: 0, D: 1}, api.OK},
		{api.Ratio{N: most, D: 1 << 62}, api.Ratio{N: 1 << 62, D: most}, api.Ratio{N: 1, D: 1}, api.OK},
		{api.Ratio{N: least, D: most}, api.Ratio{N: most, D: 1 << 62}, api.Ratio{N: -2, D: 1}, api.OK},
		{api.Ratio{N: least, D: 1}, api.Ratio{N: -1, D: 1}, api.Ratio{}, api.ErrOver},
		{api.Ratio{N: least, D: 1}, api.Ratio{N: -1, D: 2}, api.Ratio{N: 1 << 62, D: 1}, api.OK},
		{api.Ratio{N: most, D: 1}, api.Ratio{N: 2, D: 1}, api.Ratio{}, api.ErrOver},
		{api.Ratio{N: 1, D: most}, api.Ratio{N: 1, D: 2}, api.Ratio{}, api.ErrOver},
	} {
		if got, e := Mul(c.a, c.b); got != c.want || e != c.e {
			t.Errorf("Mul(%v, %v) = %v, %d; not %v, %d", c.a, c.b, got, e, c.want, c.e)
		}
	}
}

// Promise 2.2: of one that isn't right, on either side, ErrArg and false, whatever else applies.
func TestWrongFractions(t *testing.T) {
	others := append(fractions()[:20], wrong()...)
	for _, a := range wrong() {
		for _, b := range others {
			for _, c := range [][2]api.Ratio{{a, b}, {b, a}} {
				if got, e := Add(c[0], c[1]); got != (api.Ratio{}) || e != api.ErrArg {
					t.Errorf("Add%v = %v, %d", c, got, e)
				}
				if got, e := Mul(c[0], c[1]); got != (api.Ratio{}) || e != api.ErrArg {
					t.Errorf("Mul%v = %v, %d", c, got, e)
				}
				if Less(c[0], c[1]) {
					t.Errorf("Less%v", c)
				}
			}
		}
	}
}

// Promise 2.3: texts written out; of fractions that aren't right there is one too.
func TestTexts(t *testing.T) {
	for want, a := range map[string]api.Ratio{
		"5/6":   {N: 5, D: 6},
		"-5/6":  {N: -5, D: 6},
		"0/1":   {N: 0, D: 1},
		"0/0":   {},
		"10/-4": {N: 10, D: -4},
		"-9223372036854775808/9223372036854775807": {N: least, D: most},
	} {
		if got := Text(a); got != want {
			t.Errorf("Text(%v) = %q", a, got)
		}
	}
}

// Promises 2.3 and 2.4: every right fraction is read as it was written; one that isn't right is refused.
func TestThereAndBack(t *testing.T) {
	for _, a := range fractions() {
		if got, e := Read(Text(a)); got != a || e != api.OK {
			t.Errorf("Read(%q) = %v, %d", Text(a), got, e)
		}
	}
	for _, a := range wrong() {
		if got, e := Read(Text(a)); got != (api.Ratio{}) || e != api.ErrArg {
			t.Errorf("Read(%q) = %v, %d", Text(a), got, e)
		}
	}
}

// Promise 2.3: Read's errors, in the order in which the chapter names them.
func TestReadRefuses(t *testing.T) {
	for s, want := range map[string]api.Errno{
		"":                         api.ErrForm,
		"/":                        api.ErrForm,
		"5":                        api.ErrForm,
		"5/":                       api.ErrForm,
		"/6":                       api.ErrForm,
		"5//6":                     api.ErrForm,
		"5/6/":                     api.ErrForm,
		"5/6/7":                    api.ErrForm,
		"/5/6":                     api.ErrForm,
		" 5/6":                     api.ErrForm,
		"5 /6":                     api.ErrForm,
		"5/ 6":                     api.ErrForm,
		"5/6\n":                    api.ErrForm,
		"05/6":                     api.ErrForm,
		"5/06":                     api.ErrForm,
		"+5/6":                     api.ErrForm,
		"5/+6":                     api.ErrForm,
		"-0/1":                     api.ErrForm,
		"--5/6":                    api.ErrForm,
		"5\\6":                     api.ErrForm,
		"5:6":                      api.ErrForm,
		"0x5/6":                    api.ErrForm,
		"5/6\x00":                  api.ErrForm,
		"\xff/1":                   api.ErrForm,
		"\uff15/6":                 api.ErrForm,
		"9223372036854775808":      api.ErrForm,
		"9223372036854775808/":     api.ErrForm,
		"9223372036854775808/x":    api.ErrForm,
		"x/9223372036854775808":    api.ErrForm,
		"9223372036854775808/06":   api.ErrForm,
		"9223372036854775808/1":    api.ErrOver,
		"1/9223372036854775808":    api.ErrOver,
		"-9223372036854775809/1":   api.ErrOver,
		"1/-9223372036854775809":   api.ErrOver,
		"9223372036854775808/0":    api.ErrOver,
		"2/18446744073709551616":   api.ErrOver,
		"18446744073709551617/1":   api.ErrOver,
		"99999999999999999999/-99": api.ErrOver,
		"5/-6":                     api.ErrArg,
		"5/0":                      api.ErrArg,
		"0/0":                      api.ErrArg,
		"0/2":                      api.ErrArg,
		"10/4":                     api.ErrArg,
		"1/-9223372036854775808":   api.ErrArg,
	} {
		if got, e := Read(s); got != (api.Ratio{}) || e != want {
			t.Errorf("Read(%q) = %v, %d; not %d", s, got, e, want)
		}
	}
}

// Promise 2.3: of texts of few letters, those are read that the form holds, and no others.
func TestReadTakesTheFormAlone(t *testing.T) {
	form := regexp.MustCompile(`^(0|-?[1-9][0-9]*)/(0|-?[1-9][0-9]*)$`)
	letters := "012-/ +"
	var look func(s string)
	look = func(s string) {
		a, e := Read(s)
		if form.MatchString(s) == (e == api.ErrForm) {
			t.Errorf("Read(%q) = %v, %d", s, a, e)
		}
		if e == api.OK && Text(a) != s {
			t.Errorf("Read(%q) = %v", s, a)
		}
		for i := range len(letters) {
			if len(s) < 5 {
				look(s + letters[i:i+1])
			}
		}
	}
	look("")
}
