package unit

import (
	"math"
	"math/big"
	"math/rand"
	"slices"
	"strconv"
	"strings"
	"testing"

	"lancet/api"
	"lancet/ratio"
)

const (
	least = math.MinInt64
	most  = math.MaxInt64
)

// document is the chapter's table, row by row.
const document = `
| one | 0 | 0 | 0 | 0 | 1/1 | 0/1 | 512 |
| pct | 0 | 0 | 0 | 0 | 1/100 | 0/1 | 544 |
| kg | 1 | 0 | 0 | 0 | 1/1 | 0/1 | 1731 |
| g | 1 | 0 | 0 | 0 | 1/1000 | 0/1 | 1728 |
| lb | 1 | 0 | 0 | 0 | 45359237/100000000 | 0/1 | 1760 |
| m | 0 | 1 | 0 | 0 | 1/1 | 0/1 | 1280 |
| cm | 0 | 1 | 0 | 0 | 1/100 | 0/1 | 1297 |
| mm | 0 | 1 | 0 | 0 | 1/1000 | 0/1 | 1298 |
| in | 0 | 1 | 0 | 0 | 127/5000 | 0/1 | 1376 |
| s | 0 | 0 | 1 | 0 | 1/1 | 0/1 | 2176 |
| min | 0 | 0 | 1 | 0 | 60/1 | 0/1 | 2208 |
| h | 0 | 0 | 1 | 0 | 3600/1 | 0/1 | 2240 |
| k | 0 | 0 | 0 | 1 | 1/1 | 0/1 | 3520 |
| c | 0 | 0 | 0 | 1 | 1/1 | 5463/20 | 6048 |
| f | 0 | 0 | 0 | 1 | 5/9 | 45967/180 | 4416 |
| pa | 1 | -1 | -2 | 0 | 1/1 | 0/1 | 3840 |
| kpa | 1 | -1 | -2 | 0 | 1000/1 | 0/1 | 3843 |
| mmhg | 1 | -1 | -2 | 0 | 20265/152 | 0/1 | 3872 |
| cmho | 1 | -1 | -2 | 0 | 196133/2000 | 0/1 | 3904 |
| l | 0 | 3 | 0 | 0 | 1/1000 | 0/1 | 1600 |
| ml | 0 | 3 | 0 | 0 | 1/1000000 | 0/1 | 1618 |
| lpm | 0 | 3 | -1 | 0 | 1/60000 | 0/1 | 3072 |
| mlh | 0 | 3 | -1 | 0 | 1/3600000000 | 0/1 | 3122 |
| bpm | 0 | 0 | -1 | 0 | 1/60 | 0/1 | 2720 |
| hz | 0 | 0 | -1 | 0 | 1/1 | 0/1 | 2496 |
`

// rows reads the chapter's table.
func rows(t *testing.T) []Unit {
	t.Helper()
	number := func(s string) int {
		n, err := strconv.Atoi(s)
		if err != nil {
			t.Fatal(err)
		}
		return n
	}
	fraction := func(s string) api.Ratio {
		n, d, _ := strings.Cut(s, "/")
		return api.Ratio{N: int64(number(n)), D: int64(number(d))}
	}
	var list []Unit
	for _, line := range strings.Split(strings.TrimSpace(document), "\n") {
		cells := strings.Split(strings.Trim(line, "| "), " | ")
		u := Unit{Name: cells[0], Factor: fraction(cells[5]), Offset: fraction(cells[6]), Code: number(cells[7])}
		for i := range u.Dim {
			u.Dim[i] = number(cells[1+i])
		}
		list = append(list, u)
	}
	return list
}

// absent: names that aren't there.
func absent() []string {
	return []string{"", " ", "K", "C", "Kg", "KG", "kg ", " kg", "kg\x00", "kgg", "stone", "on", "ones", "mmh", "mmhgs", "cmh2o", "i", "\xff", "\u212a", "\u00b5l", strings.Repeat("m", 4000)}
}

// values: right fractions of all sizes, with the edges.
func values() []api.Ratio {
	list := []api.Ratio{{N: 0, D: 1}, {N: 1, D: 1}, {N: -1, D: 1}, {N: 98, D: 1}, {N: 493, D: 5}, {N: -5463, D: 20}, {N: -45967, D: 100}, {N: least, D: 1}, {N: most, D: 1}, {N: 1, D: most}, {N: -1, D: most}, {N: least, D: most}, {N: most, D: 1 << 62}, {N: 1, D: 1 << 62}, {N: 1 << 62, D: 1}}
	r := rand.New(rand.NewSource(3))
	for len(list) < 400 {
		n, d := int64(r.Uint64())>>r.Intn(64), int64(r.Uint64()>>1)>>r.Intn(63)
		if d == 0 {
			continue
		}
		q := new(big.Rat).SetFrac64(n, d)
		list = append(list, api.Ratio{N: q.Num().Int64(), D: q.Denom().Int64()})
	}
	return list
}

// wrong: fractions that aren't right.
func wrong() []api.Ratio {
	return []api.Ratio{{}, {N: 1}, {N: least}, {N: 0, D: 2}, {N: 0, D: -1}, {N: 2, D: 2}, {N: 2, D: 4}, {N: -6, D: 3}, {N: 1, D: -2}, {N: -1, D: -1}, {N: 1, D: least}, {N: least, D: least}, {N: least, D: 2}, {N: most, D: most}, {N: most, D: 7}}
}

// Promise 3.1: all names, as the table has them, and new memory each time.
func TestNames(t *testing.T) {
	var want []string
	for _, u := range rows(t) {
		want = append(want, u.Name)
	}
	if len(want) != 25 {
		t.Fatalf("%d rows", len(want))
	}
	first := Names()
	if !slices.Equal(first, want) {
		t.Fatalf("Names() = %q", first)
	}
	whole := first[:cap(first)]
	for i := range whole {
		whole[i] = "spoilt"
	}
	if again := Names(); !slices.Equal(again, want) {
		t.Errorf("Names() = %q, when the first answer was changed", again)
	}
	if _, ok := Find("kg"); !ok || !Like("kg", "g") {
		t.Error("kg is gone, when Names' answer was changed")
	}
}

// Promise 3.1: every row of the table is found with all that it says; nothing is found else.
func TestFind(t *testing.T) {
	for _, want := range rows(t) {
		if got, ok := Find(want.Name); got != want || !ok {
			t.Errorf("Find(%q) = %v, %v; not %v", want.Name, got, ok, want)
		}
	}
	for _, name := range absent() {
		if got, ok := Find(name); got != (Unit{}) || ok {
			t.Errorf("Find(%q) = %v, %v", name, got, ok)
		}
	}
}

// The head of the chapter: factors and offsets are right.
func TestFactorsAreRight(t *testing.T) {
	for _, name := range Names() {
		if u, _ := Find(name); !ratio.Right(u.Factor) || !ratio.Right(u.Offset) {
			t.Errorf("%s: %v, %v", name, u.Factor, u.Offset)
		}
	}
}

// kinds: the units, by what they measure.
func kinds() [][]string {
	return [][]string{
		{"one", "pct"},
		{"kg", "g", "lb"},
		{"m", "cm", "mm", "in"},
		{"s", "min", "h"},
		{"k", "c", "f"},
		{"pa", "kpa", "mmhg", "cmho"},
		{"l", "ml"},
		{"lpm", "mlh"},
		{"bpm", "hz"},
	}
}

// Promise 3.1: Like of all pairs; a name that isn't there is like none, itself included.
func TestLike(t *testing.T) {
	number := map[string]int{}
	for i, kind := range kinds() {
		for _, name := range kind {
			number[name] = i
		}
	}
	for _, a := range Names() {
		for _, b := range Names() {
			if got, want := Like(a, b), number[a] == number[b]; got != want {
				t.Errorf("Like(%q, %q) = %v", a, b, got)
			}
		}
		for _, b := range absent() {
			if Like(a, b) || Like(b, a) {
				t.Errorf("%q and %q are alike", a, b)
			}
		}
	}
	for _, a := range absent() {
		for _, b := range absent() {
			if Like(a, b) {
				t.Errorf("Like(%q, %q)", a, b)
			}
		}
	}
}

// model works a conversion out of exact numbers: what it is, or false if a number on the way that chapter 2 names is beyond 64 bits.
func model(v api.Ratio, from, to Unit) (api.Ratio, bool) {
	exact := func(a api.Ratio) *big.Rat { return big.NewRat(a.N, a.D) }
	fits := true
	within := func(n *big.Int) { fits = fits && n.IsInt64() }
	held := func(q *big.Rat) *big.Rat {
		within(q.Num())
		within(q.Denom())
		return q
	}
	add := func(a, b *big.Rat) *big.Rat {
		common := new(big.Int).GCD(nil, nil, a.Denom(), b.Denom())
		part := func(x, y *big.Int) *big.Int {
			p := new(big.Int).Mul(x, y)
			p.Quo(p, common)
			within(p)
			return p
		}
		within(new(big.Int).Add(part(a.Num(), b.Denom()), part(b.Num(), a.Denom())))
		part(a.Denom(), b.Denom())
		return held(new(big.Rat).Add(a, b))
	}
	q := new(big.Rat).SetFrac64(v.N, v.D)
	q = held(new(big.Rat).Mul(q, exact(from.Factor)))
	q = add(q, exact(from.Offset))
	q = add(q, new(big.Rat).Neg(exact(to.Offset)))
	q = held(new(big.Rat).Mul(q, new(big.Rat).Inv(exact(to.Factor))))
	if !fits {
		return api.Ratio{}, false
	}
	return api.Ratio{N: q.Num().Int64(), D: q.Denom().Int64()}, true
}

// Promise 3.2: of all pairs of units and of values of all sizes, Convert answers what the table and exact numbers say.
func TestConvertIsExact(t *testing.T) {
	list := values()
	for _, from := range rows(t) {
		for _, to := range rows(t) {
			for _, v := range list {
				want, e := v, api.OK
				if from.Dim != to.Dim {
					want, e = api.Ratio{}, api.ErrKind
				} else if from.Name != to.Name {
					got, fits := model(v, from, to)
					want = got
					if !fits {
						e = api.ErrOver
					}
				}
				if got, fault := Convert(v, from.Name, to.Name); got != want || fault != e {
					t.Errorf("Convert(%v, %s, %s) = %v, %d; not %v, %d", v, from.Name, to.Name, got, fault, want, e)
				}
			}
		}
	}
}

// Promise 3.2: conversions within each kind, and its edges, written out; the first two are the chapter's examples.
func TestConvertEdges(t *testing.T) {
	for _, c := range []struct {
		v        api.Ratio
		from, to string
		want     api.Ratio
		e        api.Errno
	}{
		{api.Ratio{N: 98, D: 1}, "f", "f", api.Ratio{N: 98, D: 1}, api.OK},
		{api.Ratio{N: 212, D: 1}, "f", "c", api.Ratio{N: 100, D: 1}, api.OK},
		{api.Ratio{N: 493, D: 5}, "f", "c", api.Ratio{N: 37, D: 1}, api.OK},
		{api.Ratio{N: 37, D: 1}, "c", "f", api.Ratio{N: 493, D: 5}, api.OK},
		{api.Ratio{N: -40, D: 1}, "c", "f", api.Ratio{N: -40, D: 1}, api.OK},
		{api.Ratio{N: -40, D: 1}, "f", "c", api.Ratio{N: -40, D: 1}, api.OK},
		{api.Ratio{N: 0, D: 1}, "c", "k", api.Ratio{N: 5463, D: 20}, api.OK},
		{api.Ratio{N: 0, D: 1}, "k", "c", api.Ratio{N: -5463, D: 20}, api.OK},
		{api.Ratio{N: 0, D: 1}, "k", "f", api.Ratio{N: -45967, D: 100}, api.OK},
		{api.Ratio{N: -45967, D: 100}, "f", "k", api.Ratio{N: 0, D: 1}, api.OK},
		{api.Ratio{N: 50, D: 1}, "pct", "one", api.Ratio{N: 1, D: 2}, api.OK},
		{api.Ratio{N: 1, D: 2}, "one", "pct", api.Ratio{N: 50, D: 1}, api.OK},
		{api.Ratio{N: 2, D: 1}, "lb", "g", api.Ratio{N: 45359237, D: 50000}, api.OK},
		{api.Ratio{N: 10, D: 1}, "in", "cm", api.Ratio{N: 127, D: 5}, api.OK},
		{api.Ratio{N: 127, D: 5}, "mm", "in", api.Ratio{N: 1, D: 1}, api.OK},
		{api.Ratio{N: 90, D: 1}, "min", "h", api.Ratio{N: 3, D: 2}, api.OK},
		{api.Ratio{N: 760, D: 1}, "mmhg", "pa", api.Ratio{N: 101325, D: 1}, api.OK},
		{api.Ratio{N: 10, D: 1}, "cmho", "kpa", api.Ratio{N: 196133, D: 200000}, api.OK},
		{api.Ratio{N: 3, D: 2}, "l", "ml", api.Ratio{N: 1500, D: 1}, api.OK},
		{api.Ratio{N: 3, D: 2}, "lpm", "mlh", api.Ratio{N: 90000, D: 1}, api.OK},
		{api.Ratio{N: 75, D: 1}, "bpm", "hz", api.Ratio{N: 5, D: 4}, api.OK},
		// The last step is beyond, above and below.
		{api.Ratio{N: 9223372036854775, D: 1}, "kg", "g", api.Ratio{N: 9223372036854775000, D: 1}, api.OK},
		{api.Ratio{N: 9223372036854776, D: 1}, "kg", "g", api.Ratio{}, api.ErrOver},
		{api.Ratio{N: -9223372036854775, D: 1}, "kg", "g", api.Ratio{N: -9223372036854775000, D: 1}, api.OK},
		{api.Ratio{N: -9223372036854776, D: 1}, "kg", "g", api.Ratio{}, api.ErrOver},
		// The first step is beyond, though what comes of it all isn't.
		{api.Ratio{N: 153722867280912930, D: 1}, "min", "h", api.Ratio{N: 5124095576030431, D: 2}, api.OK},
		{api.Ratio{N: 153722867280912960, D: 1}, "min", "h", api.Ratio{}, api.ErrOver},
		{api.Ratio{N: -153722867280912960, D: 1}, "min", "h", api.Ratio{}, api.ErrOver},
		{api.Ratio{N: 1, D: 9223372036854775}, "g", "kg", api.Ratio{N: 1, D: 9223372036854775000}, api.OK},
		{api.Ratio{N: 1, D: 9223372036854777}, "g", "kg", api.Ratio{}, api.ErrOver},
		{api.Ratio{N: 1, D: 9223372036854777}, "g", "g", api.Ratio{N: 1, D: 9223372036854777}, api.OK},
		// The offset is one step, on its way there and back.
		{api.Ratio{N: 461168601842738517, D: 1}, "c", "k", api.Ratio{N: 9223372036854775803, D: 20}, api.OK},
		{api.Ratio{N: 461168601842738518, D: 1}, "c", "k", api.Ratio{}, api.ErrOver},
		{api.Ratio{N: -461168601842738790, D: 1}, "c", "k", api.Ratio{N: -9223372036854770337, D: 20}, api.OK},
		{api.Ratio{N: -461168601842738791, D: 1}, "c", "k", api.Ratio{}, api.ErrOver},
		{api.Ratio{N: -461168601842738517, D: 1}, "k", "c", api.Ratio{N: -9223372036854775803, D: 20}, api.OK},
		{api.Ratio{N: -461168601842738518, D: 1}, "k", "c", api.Ratio{}, api.ErrOver},
		// One that is itself isn't worked out.
		{api.Ratio{N: most, D: 1}, "h", "h", api.Ratio{N: most, D: 1}, api.OK},
		{api.Ratio{N: least, D: most}, "c", "c", api.Ratio{N: least, D: most}, api.OK},
		{api.Ratio{N: most, D: 1}, "c", "f", api.Ratio{}, api.ErrOver},
	} {
		if got, e := Convert(c.v, c.from, c.to); got != c.want || e != c.e {
			t.Errorf("Convert(%v, %s, %s) = %v, %d; not %v, %d", c.v, c.from, c.to, got, e, c.want, c.e)
		}
	}
}

// Promise 3.2: the errors in the chapter's order: a name, a kind, a fraction, a number beyond.
func TestConvertRefuses(t *testing.T) {
	over := api.Ratio{N: most, D: 1}
	refused := func(v api.Ratio, from, to string, want api.Errno) {
		t.Helper()
		if got, e := Convert(v, from, to); got != (api.Ratio{}) || e != want {
			t.Errorf("Convert(%v, %q, %q) = %v, %d; not %d", v, from, to, got, e, want)
		}
	}
	refused(over, "kg", "g", api.ErrOver)
	for _, v := range append(wrong(), over, api.Ratio{N: 1, D: 1}) {
		for _, name := range absent() {
			refused(v, name, "kg", api.ErrName)
			refused(v, "kg", name, api.ErrName)
			refused(v, name, name, api.ErrName)
			refused(v, name, "stone", api.ErrName)
		}
		refused(v, "kg", "m", api.ErrKind)
		refused(v, "hz", "s", api.ErrKind)
		refused(v, "lpm", "l", api.ErrKind)
		refused(v, "one", "k", api.ErrKind)
	}
	for _, v := range wrong() {
		for _, kind := range kinds() {
			for _, to := range kind {
				refused(v, kind[0], to, api.ErrArg)
			}
		}
	}
}

// Promise 3.3: there and back, within each kind, is what it was, where all lies within; values of everyday sizes do.
func TestThereAndBack(t *testing.T) {
	within := 0
	look := func(v api.Ratio, everyday bool) {
		for _, kind := range kinds() {
			for _, from := range kind {
				for _, to := range kind {
					there, e := Convert(v, from, to)
					back, fault := Convert(there, to, from)
					if e == api.OK && fault == api.OK {
						within++
						if back != v {
							t.Errorf("%v %s is %v %s is %v", v, from, there, to, back)
						}
					} else if everyday {
						t.Errorf("%v %s in %s: %d, %d", v, from, to, e, fault)
					}
				}
			}
		}
	}
	for _, v := range values() {
		look(v, false)
	}
	for n := int64(-1000); n <= 1000; n += 7 {
		for _, d := range []int64{1, 2, 3, 10, 16, 100, 1000} {
			q := big.NewRat(n, d)
			look(api.Ratio{N: q.Num().Int64(), D: q.Denom().Int64()}, true)
		}
	}
	if within < 100000 {
		t.Errorf("only %d lay within", within)
	}
}
