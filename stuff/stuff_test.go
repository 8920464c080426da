package stuff

import (
	"bytes"
	"math"
	"math/rand"
	"slices"
	"strings"
	"testing"

	"lancet/api"
)

// example: the marks of the chapter's example.
var example = Marks{2, 27, 32}

// rightMarks: some that are right, at the ends of a byte too.
func rightMarks() []Marks {
	return []Marks{example, {0, 255, 1}, {255, 0, 1}, {0, 1, 2}, {1, 0, 255}, {126, 125, 32}, {192, 219, 7}, {255, 254, 128}, {128, 1, 128}, {2, 27, 255}, {0, 1, 254}}
}

// wrongMarks: each reason why marks aren't right, alone and with others.
func wrongMarks() []struct {
	name string
	m    Marks
} {
	return []struct {
		name string
		m    Marks
	}{
		{"the start is the escape", Marks{2, 2, 32}},
		{"the start is the escape", Marks{0, 0, 255}},
		{"the start is the escape", Marks{255, 255, 1}},
		{"a mix of 0", Marks{2, 27, 0}},
		{"a mix of 0", Marks{0, 255, 0}},
		{"a mix of 0", Marks{255, 0, 0}},
		{"the escape made one with the mix is the start", Marks{2, 27, 25}},
		{"the escape made one with the mix is the start", Marks{0, 255, 255}},
		{"the escape made one with the mix is the start", Marks{255, 254, 1}},
		{"the escape made one with the mix is the start", Marks{126, 94, 32}},
		{"the start is the escape, a mix of 0", Marks{0, 0, 0}},
		{"the start is the escape, a mix of 0", Marks{2, 2, 0}},
		{"the start is the escape, a mix of 0", Marks{255, 255, 0}},
	}
}

// allSorts: right marks and wrong ones.
func allSorts() []Marks {
	list := rightMarks()
	for _, w := range wrongMarks() {
		list = append(list, w.m)
	}
	return list
}

// chanceMarks: any three bytes, often near each other.
func chanceMarks(r *rand.Rand) Marks {
	if r.Intn(2) == 0 {
		return Marks{byte(r.Intn(4)), byte(r.Intn(4)), byte(r.Intn(4))}
	}
	return Marks{byte(r.Intn(256)), byte(r.Intn(256)), byte(r.Intn(256))}
}

// letters: the bytes that mean something with such marks, and some that don't.
func letters(m Marks) []byte {
	list := []byte{m.Start, m.Escape, m.Mix, m.Start ^ m.Mix, m.Escape ^ m.Mix, m.Start + 1, m.Escape - 1, 0, 255}
	slices.Sort(list)
	return slices.Compact(list)
}

// texts: all of so many letters.
func texts(letters []byte, n int) [][]byte {
	if n == 0 {
		return [][]byte{{}}
	}
	var list [][]byte
	for _, head := range texts(letters, n-1) {
		for _, c := range letters {
			list = append(list, append(slices.Clip(head), c))
		}
	}
	return list
}

// chanceText: bytes of which many are marks.
func chanceText(r *rand.Rand, m Marks, most int) []byte {
	list := letters(m)
	b := make([]byte, r.Intn(most+1))
	for i := range b {
		b[i] = byte(r.Intn(256))
		if r.Intn(3) == 0 {
			b[i] = list[r.Intn(len(list))]
		}
	}
	return b
}

// stuffedModel replaces the two marks by two bytes each, as texts.
func stuffedModel(m Marks, b []byte) []byte {
	pair := func(c byte) string { return string([]byte{m.Escape, c ^ m.Mix}) }
	r := strings.NewReplacer(string([]byte{m.Start}), pair(m.Start), string([]byte{m.Escape}), pair(m.Escape))
	return []byte(r.Replace(string(b)))
}

// unstuffedModel cuts the text at the first escape, and goes on behind the byte that follows it.
func unstuffedModel(m Marks, b []byte) ([]byte, api.Errno) {
	// An escape is wrong at the end alone, so that no start can stand behind that.
	if bytes.Contains(b, []byte{m.Start}) {
		return nil, api.ErrClash
	}
	head, rest, found := bytes.Cut(b, []byte{m.Escape})
	all := slices.Clone(head)
	for found {
		if len(rest) == 0 {
			return nil, api.ErrForm
		}
		all = append(all, rest[0]^m.Mix)
		head, rest, found = bytes.Cut(rest[1:], []byte{m.Escape})
		all = append(all, head...)
	}
	return all, api.OK
}

// withRoom puts memory behind given bytes that a call may neither look at nor change.
func withRoom(b []byte) []byte {
	return append(slices.Clip(bytes.Clone(b)), "\x02\x1b1234567890"...)[:len(b)]
}

// short cuts what a failure shows.
func short(b []byte) []byte { return b[:min(len(b), 40)] }

// wantStuffed asks Stuff, and holds the bytes handed in against what they were.
func wantStuffed(t *testing.T, m Marks, b, want []byte) {
	t.Helper()
	given := withRoom(b)
	kept := bytes.Clone(given[:cap(given)])
	got := Stuff(m, given)
	if !bytes.Equal(got, want) {
		t.Fatalf("Stuff(%v, %x) = %x (%d bytes), not %x (%d)", m, short(b), short(got), len(got), short(want), len(want))
	}
	if !bytes.Equal(given[:cap(given)], kept) {
		t.Fatalf("Stuff(%v, %x) changes what is handed in", m, short(b))
	}
}

// wantUnstuffed asks Unstuff, and holds the bytes handed in against what they were; beside an error there are none.
func wantUnstuffed(t *testing.T, m Marks, b, want []byte, wantErr api.Errno) {
	t.Helper()
	given := withRoom(b)
	kept := bytes.Clone(given[:cap(given)])
	got, e := Unstuff(m, given)
	if e != wantErr || !bytes.Equal(got, want) {
		t.Fatalf("Unstuff(%v, %x) = %x (%d bytes), %d, not %x (%d), %d", m, short(b), short(got), len(got), e, short(want), len(want), wantErr)
	}
	if !bytes.Equal(given[:cap(given)], kept) {
		t.Fatalf("Unstuff(%v, %x) changes what is handed in", m, short(b))
	}
}

// Promise 11.1: marks that are right.
func TestRightMarks(t *testing.T) {
	for _, m := range rightMarks() {
		if !Right(m) {
			t.Errorf("Right(%v) = false", m)
		}
	}
	// An escape that is the start made one with the mix is the same as a start that is the escape made one with it; that a mix is a mark is no fault.
	for _, m := range []Marks{{2, 27, 2}, {2, 27, 27}, {27, 2, 2}, {27, 2, 27}, {1, 2, 1}, {1, 2, 2}} {
		if !Right(m) {
			t.Errorf("Right(%v) = false", m)
		}
	}
}

// Promise 11.1: marks that aren't, each by its reason.
func TestWrongMarks(t *testing.T) {
	for _, w := range wrongMarks() {
		if Right(w.m) {
			t.Errorf("Right(%v) = true: %s", w.m, w.name)
		}
	}
}

// Promise 11.1: all marks that there are; of the mixes of two unlike marks just two are wrong.
func TestAllMarks(t *testing.T) {
	count := 0
	for start := range 256 {
		for escape := range 256 {
			for mix := range 256 {
				m := Marks{byte(start), byte(escape), byte(mix)}
				right := Right(m)
				if want := start != escape && mix != 0 && mix != start^escape; right != want {
					t.Fatalf("Right(%v) = %v", m, right)
				}
				if right {
					count++
				}
			}
		}
	}
	if count != 256*255*254 {
		t.Errorf("%d marks are right", count)
	}
}

// Promise 11.1: the chapter's example.
func TestExample(t *testing.T) {
	wantStuffed(t, example, []byte{1, 2, 3}, []byte{1, 27, 34, 3})
	wantUnstuffed(t, example, []byte{1, 27, 34, 3}, []byte{1, 2, 3}, api.OK)
}

// Promises 11.1, 11.2 and 11.3: none, one and many marks at the front, inside and at the end, written out, there and back.
func TestThereAndBackWrittenOut(t *testing.T) {
	for _, c := range []struct{ plain, stuffed string }{
		{"", ""},
		{"\x00", "\x00"},
		{"\xff", "\xff"},
		{"abc", "abc"},
		{"\x02", "\x1b\x22"},
		{"\x1b", "\x1b\x3b"},
		{"\x02a", "\x1b\x22a"},
		{"\x1ba", "\x1b\x3ba"},
		{"a\x02", "a\x1b\x22"},
		{"a\x1b", "a\x1b\x3b"},
		{"a\x02b", "a\x1b\x22b"},
		{"a\x1bb", "a\x1b\x3bb"},
		{"\x02\x02", "\x1b\x22\x1b\x22"},
		{"\x1b\x1b", "\x1b\x3b\x1b\x3b"},
		{"\x02\x1b", "\x1b\x22\x1b\x3b"},
		{"\x1b\x02", "\x1b\x3b\x1b\x22"},
		{"\x02a\x1b", "\x1b\x22a\x1b\x3b"},
		{"\x1ba\x02", "\x1b\x3ba\x1b\x22"},
		{"\x02\x02\x02\x1b\x1b\x1b", "\x1b\x22\x1b\x22\x1b\x22\x1b\x3b\x1b\x3b\x1b\x3b"},
		{"a\x02\x1bb\x1b\x02c", "a\x1b\x22\x1b\x3bb\x1b\x3b\x1b\x22c"},
		// What marks become stands for itself, if it isn't behind an escape, and so does the mix.
		{"\x22", "\x22"},
		{"\x3b", "\x3b"},
		{"\x20", "\x20"},
		{"\x22\x02\x3b\x1b\x20", "\x22\x1b\x22\x3b\x1b\x3b\x20"},
		{"\x1b\x22", "\x1b\x3b\x22"},
		{"\x1b\x3b", "\x1b\x3b\x3b"},
		{"\x03\x01\x1a\x1c", "\x03\x01\x1a\x1c"},
	} {
		wantStuffed(t, example, []byte(c.plain), []byte(c.stuffed))
		wantUnstuffed(t, example, []byte(c.stuffed), []byte(c.plain), api.OK)
	}
}

// Promise 11.1: lists without elements are one, made or not.
func TestNoBytes(t *testing.T) {
	for _, m := range append(allSorts(), Marks{}) {
		wantStuffed(t, m, nil, nil)
		wantStuffed(t, m, []byte{}, nil)
		wantUnstuffed(t, m, nil, nil, api.OK)
		wantUnstuffed(t, m, []byte{}, nil, api.OK)
		if b := Stuff(m, nil); len(b) != 0 {
			t.Errorf("Stuff(%v, nil) = %x", m, b)
		}
		if b, e := Unstuff(m, nil); len(b) != 0 || e != api.OK {
			t.Errorf("Unstuff(%v, nil) = %x, %d", m, b, e)
		}
	}
}

// Promise 11.1: every byte, alone and all in a row, for right marks and wrong ones.
func TestEveryByteStuffed(t *testing.T) {
	for _, m := range allSorts() {
		var all, want []byte
		for n := range 256 {
			c := byte(n)
			one := []byte{c}
			if c == m.Start || c == m.Escape {
				one = []byte{m.Escape, c ^ m.Mix}
			}
			wantStuffed(t, m, []byte{c}, one)
			all, want = append(all, c), append(want, one...)
		}
		wantStuffed(t, m, all, want)
	}
}

// Promise 11.1: marks that aren't right are stuffed with as they are.
func TestStuffWithWrongMarks(t *testing.T) {
	for _, c := range []struct {
		m              Marks
		plain, stuffed string
	}{
		{Marks{2, 2, 32}, "\x01\x02\x03", "\x01\x02\x22\x03"},
		{Marks{2, 27, 0}, "\x01\x02\x1b", "\x01\x1b\x02\x1b\x1b"},
		{Marks{2, 27, 25}, "\x01\x02\x1b", "\x01\x1b\x1b\x1b\x02"},
		{Marks{0, 0, 0}, "\x00\x01\x00", "\x00\x00\x01\x00\x00"},
	} {
		wantStuffed(t, c.m, []byte(c.plain), []byte(c.stuffed))
	}
}

// Promise 11.2: every byte, alone and behind an escape, for right marks and wrong ones.
func TestEveryByteUnstuffed(t *testing.T) {
	for _, m := range allSorts() {
		for n := range 256 {
			c := byte(n)
			switch c {
			case m.Start:
				wantUnstuffed(t, m, []byte{c}, nil, api.ErrClash)
			case m.Escape:
				wantUnstuffed(t, m, []byte{c}, nil, api.ErrForm)
			default:
				wantUnstuffed(t, m, []byte{c}, []byte{c}, api.OK)
			}
			if c == m.Start || m.Escape == m.Start {
				wantUnstuffed(t, m, []byte{m.Escape, c}, nil, api.ErrClash)
				continue
			}
			wantUnstuffed(t, m, []byte{m.Escape, c}, []byte{c ^ m.Mix}, api.OK)
			wantUnstuffed(t, m, []byte{m.Escape, c, m.Escape}, nil, api.ErrForm)
			wantUnstuffed(t, m, []byte{m.Escape, c, m.Escape, c}, []byte{c ^ m.Mix, c ^ m.Mix}, api.OK)
		}
	}
}

// Promise 11.2: what is refused, and with which error.
func TestUnstuffRefuses(t *testing.T) {
	for _, c := range []struct {
		b    string
		want api.Errno
	}{
		// A start, wherever it stands.
		{"\x02", api.ErrClash},
		{"\x02a", api.ErrClash},
		{"a\x02", api.ErrClash},
		{"a\x02b", api.ErrClash},
		{"\x02\x02", api.ErrClash},
		{"\x1b\x22\x02", api.ErrClash},
		{"\x1b\x22\x02\x1b\x22", api.ErrClash},
		// A start behind an escape.
		{"\x1b\x02", api.ErrClash},
		{"a\x1b\x02", api.ErrClash},
		{"\x1b\x02a", api.ErrClash},
		{"\x1b\x1b\x02", api.ErrClash},
		{"\x1b\x1b\x1b\x02", api.ErrClash},
		// An escape at the end.
		{"\x1b", api.ErrForm},
		{"a\x1b", api.ErrForm},
		{"abc\x1b", api.ErrForm},
		{"\x1b\x22\x1b", api.ErrForm},
		{"\x1b\x1b\x1b", api.ErrForm},
		{"\x1b\x3b\x1b\x3b\x1b", api.ErrForm},
		// Both: the start stands further ahead.
		{"\x02\x1b", api.ErrClash},
		{"\x02a\x1b", api.ErrClash},
		{"a\x02b\x1b", api.ErrClash},
		{"\x1b\x02\x1b", api.ErrClash},
		{"a\x1b\x22\x02\x1b", api.ErrClash},
	} {
		wantUnstuffed(t, example, []byte(c.b), nil, c.want)
	}
}

// Promise 11.2: an escape behind an escape is a byte like any other.
func TestEscapeBehindEscape(t *testing.T) {
	wantUnstuffed(t, example, []byte{27, 27}, []byte{59}, api.OK)
	wantUnstuffed(t, example, []byte{27, 27, 34}, []byte{59, 34}, api.OK)
	wantUnstuffed(t, example, []byte{27, 27, 27, 34}, []byte{59, 2}, api.OK)
	wantUnstuffed(t, example, []byte{1, 27, 27, 27, 27, 3}, []byte{1, 59, 59, 3}, api.OK)
	// Behind an escape stands what no byte is stuffed to, too.
	wantUnstuffed(t, example, []byte{27, 0, 27, 255, 27, 32}, []byte{32, 223, 0}, api.OK)
}

// Promise 11.2: marks that aren't right are unstuffed with as they are.
func TestUnstuffWithWrongMarks(t *testing.T) {
	for _, c := range []struct {
		m    Marks
		b    string
		want string
		e    api.Errno
	}{
		// Where the start is the escape, it is a start.
		{Marks{2, 2, 32}, "\x02", "", api.ErrClash},
		{Marks{2, 2, 32}, "\x02\x22", "", api.ErrClash},
		{Marks{2, 2, 32}, "\x01\x22\x02", "", api.ErrClash},
		{Marks{2, 2, 32}, "\x01\x22\x03", "\x01\x22\x03", api.OK},
		{Marks{2, 27, 0}, "\x01\x1b\x1b\x1b\x03", "\x01\x1b\x03", api.OK},
		{Marks{2, 27, 0}, "\x1b\x02", "", api.ErrClash},
		{Marks{2, 27, 0}, "\x01\x1b", "", api.ErrForm},
		{Marks{2, 27, 25}, "\x1b\x1b", "\x02", api.OK},
		{Marks{2, 27, 25}, "\x1b\x02", "", api.ErrClash},
		{Marks{2, 27, 25}, "\x1b\x1b\x1b", "", api.ErrForm},
		{Marks{0, 0, 0}, "\x01\x02", "\x01\x02", api.OK},
		{Marks{0, 0, 0}, "\x01\x00", "", api.ErrClash},
	} {
		wantUnstuffed(t, c.m, []byte(c.b), []byte(c.want), c.e)
	}
}

// Promises 11.1 and 11.2: all short texts of letters that mean something, for right marks and wrong ones.
func TestAllShortTexts(t *testing.T) {
	for _, m := range allSorts() {
		for n := range 5 {
			for _, b := range texts(letters(m), n) {
				wantStuffed(t, m, b, stuffedModel(m, b))
				want, e := unstuffedModel(m, b)
				wantUnstuffed(t, m, b, want, e)
			}
		}
	}
}

// Promises 11.1 and 11.2: any marks and any bytes.
func TestByChance(t *testing.T) {
	r := rand.New(rand.NewSource(11))
	times := make([]int, api.ErrNone+1)
	for range 60000 {
		m := chanceMarks(r)
		b := chanceText(r, m, 20)
		wantStuffed(t, m, b, stuffedModel(m, b))
		want, e := unstuffedModel(m, b)
		wantUnstuffed(t, m, b, want, e)
		times[e]++
	}
	for _, e := range []api.Errno{api.OK, api.ErrClash, api.ErrForm} {
		if times[e] < 500 {
			t.Errorf("the error %d came %d times", e, times[e])
		}
	}
}

// Promise 11.2: twice as many bytes at most, none of fewer than 1.
func TestMost(t *testing.T) {
	for _, c := range []struct{ n, want int }{
		{math.MinInt, 0}, {math.MinInt + 1, 0}, {math.MinInt / 2, 0}, {-math.MaxInt, 0}, {math.MinInt32, 0}, {-256, 0}, {-2, 0}, {-1, 0}, {0, 0},
		{1, 2}, {2, 4}, {3, 6}, {5, 10}, {32, 64}, {36, 72}, {127, 254}, {128, 256}, {255, 510}, {256, 512}, {32767, 65534}, {32768, 65536},
		{1 << 20, 1 << 21}, {1<<30 - 1, 1<<31 - 2}, {1 << 30, 1 << 31}, {math.MaxInt32, 4294967294}, {math.MaxInt/2 - 1, math.MaxInt - 3}, {math.MaxInt / 2, math.MaxInt - 1},
	} {
		if got := Most(c.n); got != c.want {
			t.Errorf("Most(%d) = %d, not %d", c.n, got, c.want)
		}
	}
	// So many bytes can't be told: the answer stays the greatest that can.
	for _, n := range []int{math.MaxInt/2 + 1, math.MaxInt/2 + 2, math.MaxInt - 1, math.MaxInt} {
		if got := Most(n); got != math.MaxInt {
			t.Errorf("Most(%d) = %d", n, got)
		}
	}
}

// Promise 11.2: as many bytes as Most says do come, and never more.
func TestMostIsReached(t *testing.T) {
	for _, m := range allSorts() {
		for n := range 5 {
			greatest := 0
			for _, b := range texts(letters(m), n) {
				greatest = max(greatest, len(Stuff(m, b)))
			}
			if greatest != Most(n) {
				t.Errorf("%v: of %d bytes at most %d come, not %d", m, n, greatest, Most(n))
			}
		}
		for _, n := range []int{36, 1000} {
			if got := len(Stuff(m, bytes.Repeat([]byte{m.Start}, n))); got != Most(n) {
				t.Errorf("%v: of %d starts %d bytes come, not %d", m, n, got, Most(n))
			}
		}
	}
}

// wantBack stuffs with right marks, holds that no start is there, and unstuffs.
func wantBack(t *testing.T, m Marks, b []byte) {
	t.Helper()
	stuffed := Stuff(m, b)
	if bytes.IndexByte(stuffed, m.Start) >= 0 {
		t.Fatalf("%v: %x is stuffed to %x, which has the start", m, short(b), short(stuffed))
	}
	wantUnstuffed(t, m, stuffed, b, api.OK)
}

// Promise 11.3: every byte, alone, between others and all in a row, with some right marks.
func TestEveryByteBack(t *testing.T) {
	for _, m := range rightMarks() {
		var all []byte
		for n := range 256 {
			c := byte(n)
			all = append(all, c)
			for _, b := range [][]byte{{c}, {c, c}, {m.Start, c}, {c, m.Start}, {m.Escape, c}, {c, m.Escape}, {m.Escape, c, m.Start}} {
				wantBack(t, m, b)
			}
		}
		wantBack(t, m, all)
		slices.Reverse(all)
		wantBack(t, m, all)
	}
}

// Promise 11.3: each mix of each two marks that is right, by the bytes that mean something.
func TestAllRightMarksBack(t *testing.T) {
	for start := range 256 {
		for escape := range 256 {
			for mix := range 256 {
				m := Marks{byte(start), byte(escape), byte(mix)}
				// Every mix with marks that are near each other, and every seventh with others.
				if !Right(m) || (start^escape) > 3 && (start+escape+mix)%7 != 0 {
					continue
				}
				b := [...]byte{m.Start, m.Escape, m.Start ^ m.Mix, m.Mix, m.Escape}
				stuffed := Stuff(m, b[:])
				back, e := Unstuff(m, stuffed)
				if bytes.IndexByte(stuffed, m.Start) >= 0 || e != api.OK || !bytes.Equal(back, b[:]) {
					t.Fatalf("%v: %x is stuffed to %x, and that unstuffed to %x, %d", m, b, stuffed, back, e)
				}
			}
		}
	}
}

// Promise 11.3: right marks by chance.
func TestBackByChance(t *testing.T) {
	r := rand.New(rand.NewSource(113))
	times := 0
	for range 40000 {
		m := chanceMarks(r)
		if !Right(m) {
			continue
		}
		times++
		wantBack(t, m, chanceText(r, m, 60))
	}
	if times < 10000 {
		t.Errorf("marks were right %d times", times)
	}
}

// Promises 11.1 and 11.3: marks that aren't right don't hold what right ones do: a start stands among what is stuffed.
func TestWrongMarksLeaveAStart(t *testing.T) {
	for _, w := range wrongMarks() {
		stuffed := Stuff(w.m, []byte{w.m.Start, w.m.Escape})
		if !bytes.Contains(stuffed, []byte{w.m.Start}) {
			t.Errorf("%v (%s): %x has no start", w.m, w.name, stuffed)
		}
		wantUnstuffed(t, w.m, stuffed, nil, api.ErrClash)
	}
}

// Promises 11.1, 11.2 and 11.3: very many bytes, in one go.
func TestVeryManyBytes(t *testing.T) {
	n := 1 << 21
	wantBack(t, example, bytes.Repeat([]byte{1}, n))
	wantBack(t, example, bytes.Repeat([]byte{2}, n))
	wantBack(t, example, bytes.Repeat([]byte{27, 2, 34, 59}, n/4))
	long := bytes.Repeat([]byte{27, 34}, n/2)
	wantUnstuffed(t, example, long, bytes.Repeat([]byte{2}, n/2), api.OK)
	wantUnstuffed(t, example, append(long, 27), nil, api.ErrForm)
	wantUnstuffed(t, example, append(long, 2), nil, api.ErrClash)
	wantUnstuffed(t, example, append(long, 27, 2), nil, api.ErrClash)
	wantUnstuffed(t, example, append([]byte{2}, append(long, 27)...), nil, api.ErrClash)
}

// scribble overwrites a list, spare room included.
func scribble(b []byte) {
	for i := range b[:cap(b)] {
		b[:cap(b)][i] = 0xee
	}
}

// Promises 11.1 and 11.2: an answer is new memory, spare room included, whether anything is stuffed or not.
func TestAnswersAreNew(t *testing.T) {
	for _, plain := range []string{"", "a", "abc", "\x02", "a\x1bb", "\x02\x1b\x02\x1b\x02"} {
		given := withRoom([]byte(plain))
		kept := bytes.Clone(given[:cap(given)])
		stuffed := Stuff(example, given)
		again := Stuff(example, given)
		want := bytes.Clone(stuffed)
		scribble(stuffed)
		if !bytes.Equal(given[:cap(given)], kept) || !bytes.Equal(again, want) {
			t.Errorf("Stuff(%x) shares its answer", plain)
		}
		given = withRoom(want)
		kept = bytes.Clone(given[:cap(given)])
		back, _ := Unstuff(example, given)
		againBack, _ := Unstuff(example, given)
		scribble(back)
		if !bytes.Equal(given[:cap(given)], kept) || string(againBack) != plain {
			t.Errorf("Unstuff(%x) shares its answer", want)
		}
		scribble(given)
		if string(againBack) != plain {
			t.Errorf("Unstuff(%x) keeps what is handed in", want)
		}
	}
}

// Promises 11.1 and 11.2: an answer hangs on its arguments alone, even behind a refused call.
func TestAskedAgain(t *testing.T) {
	first := Stuff(example, []byte{1, 2, 3})
	for range 3 {
		wantUnstuffed(t, example, []byte{1, 27}, nil, api.ErrForm)
		wantUnstuffed(t, example, []byte{34, 3}, []byte{34, 3}, api.OK)
		wantUnstuffed(t, example, []byte{1, 2}, nil, api.ErrClash)
		wantStuffed(t, Marks{3, 1, 8}, []byte{1, 2, 3}, []byte{1, 9, 2, 1, 11})
		wantStuffed(t, example, []byte{1, 2, 3}, first)
	}
}
