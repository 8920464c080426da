package desc

import (
	"math/big"
	"math/rand"
	"regexp"
	"slices"
	"strconv"
	"strings"
	"testing"

	"lancet/api"
	"lancet/lex"
)

// lines of a device, one of each kind, and its two fields last.
var pumpLines = []string{
	"device pump", "start 02", "escape 1b 20", "size 6", "sum crc16", "request 0501", "poll 10", "timeout 3", "retries 2", "age 30",
	"field rate 0 be 2 1/10 0/1 mlh", "field temp 2 sbe 2 1/100 -5/2 c",
}

// pump: what pumpLines say.
func pump() api.Device {
	return api.Device{
		Name: "pump", Start: 2, Escape: 27, Mix: 32, Size: 6, Sum: "crc16",
		Fields: []api.Field{
			{Name: "rate", At: 0, Kind: "be", Width: 2, Scale: api.Ratio{N: 1, D: 10}, Offset: api.Ratio{N: 0, D: 1}, Unit: "mlh"},
			{Name: "temp", At: 2, Kind: "sbe", Width: 2, Scale: api.Ratio{N: 1, D: 100}, Offset: api.Ratio{N: -5, D: 2}, Unit: "c"},
		},
		Request: []byte{5, 1}, Poll: 10, Timeout: 3, Retries: 2, Age: 30,
	}
}

// mustWords: the first words of which there is just one line.
var mustWords = []string{"device", "start", "escape", "size", "sum", "request", "poll", "timeout", "retries", "age"}

// row makes a row of its number and its line's words, one blank between each two.
func row(line int, words string) lex.Row {
	return lex.Row{Line: line, Words: strings.Split(words, " ")}
}

// rowsOf makes rows of lines, numbered from 1 on.
func rowsOf(lines ...string) []lex.Row {
	var rows []lex.Row
	for i, l := range lines {
		rows = append(rows, row(i+1, l))
	}
	return rows
}

// without answers the pump's lines but for those of a first word.
func without(word string) []string {
	return slices.DeleteFunc(slices.Clone(pumpLines), func(l string) bool { return strings.HasPrefix(l, word+" ") })
}

// same tells whether two devices are alike.
func same(a, b api.Device) bool {
	return a.Name == b.Name && a.Start == b.Start && a.Escape == b.Escape && a.Mix == b.Mix && a.Size == b.Size && a.Sum == b.Sum &&
		slices.Equal(a.Fields, b.Fields) && slices.Equal(a.Request, b.Request) &&
		a.Poll == b.Poll && a.Timeout == b.Timeout && a.Retries == b.Retries && a.Age == b.Age
}

func sameRow(a, b lex.Row) bool { return a.Line == b.Line && slices.Equal(a.Words, b.Words) }

func sameRows(a, b []lex.Row) bool { return slices.EqualFunc(a, b, sameRow) }

// copied answers rows that share nothing with given ones.
func copied(rows []lex.Row) []lex.Row {
	var list []lex.Row
	for _, r := range rows {
		list = append(list, lex.Row{Line: r.Line, Words: append([]string(nil), r.Words...)})
	}
	return list
}

// refused asks for an error at a place, and for nothing beside it.
func refused(t *testing.T, rows []lex.Row, at int, want api.Errno) {
	t.Helper()
	if d, n, e := Read(rows); !same(d, api.Device{}) || n != at || e != want {
		t.Errorf("Read(%v) = %v, %d, %d; not %d, %d", rows, d, n, e, at, want)
	}
}

// read asks for a device.
func read(t *testing.T, rows []lex.Row, want api.Device) {
	t.Helper()
	if d, n, e := Read(rows); !same(d, want) || n != 0 || e != api.OK {
		t.Errorf("Read(%v) = %v, %d, %d; not %v", rows, d, n, e, want)
	}
}

// Promises 8.1 and 8.2: the chapter's examples.
func TestExamples(t *testing.T) {
	refused(t, nil, 0, api.ErrLack)
	refused(t, []lex.Row{}, 0, api.ErrLack)
	refused(t, rowsOf("poll 5", "poll x"), 2, api.ErrTwice)
	for s, want := range map[string]struct {
		at int
		e  api.Errno
	}{"": {0, api.ErrLack}, "poll 5\npoll x": {2, api.ErrTwice}} {
		if d, n, e := Parse(s); !same(d, api.Device{}) || n != want.at || e != want.e {
			t.Errorf("Parse(%q) = %v, %d, %d", s, d, n, e)
		}
	}
}

// Promise 8.1: a device with two fields, one with none, and one with other numbers all along.
func TestRead(t *testing.T) {
	read(t, rowsOf(pumpLines...), pump())
	bare := pump()
	bare.Fields = nil
	read(t, rowsOf(without("field")...), bare)
	read(t, rowsOf("age 1000", "retries 10", "timeout 999", "poll 998", "request 000102030405060708090a0b0c0d0eff", "sum x", "size 32", "escape ff 00", "start fe", "device a0"), api.Device{
		Name: "a0", Start: 254, Escape: 255, Mix: 0, Size: 32, Sum: "x",
		Request: []byte{0, 1, 2, 3, 4, 5, 6, 7, 8, 9, 10, 11, 12, 13, 14, 255}, Poll: 998, Timeout: 999, Retries: 10, Age: 1000,
	})
	read(t, rowsOf("device d", "start 00", "escape 00 00", "size 1", "sum none", "request 00", "poll 1", "timeout 1", "retries 0", "age 1"), api.Device{
		Name: "d", Size: 1, Sum: "none", Request: []byte{0}, Poll: 1, Timeout: 1, Age: 1,
	})
}

// Promise 8.1: each line of the table, what may stand behind its first word, and what the device then has.
func TestRightLines(t *testing.T) {
	for _, c := range []struct {
		line string
		set  func(d *api.Device)
	}{
		{"device a", func(d *api.Device) { d.Name = "a" }},
		{"device device", func(d *api.Device) { d.Name = "device" }},
		{"device abcdefghijk9", func(d *api.Device) { d.Name = "abcdefghijk9" }},
		{"sum a", func(d *api.Device) { d.Sum = "a" }},
		{"sum nosuchsum012", func(d *api.Device) { d.Sum = "nosuchsum012" }},
		{"start 00", func(d *api.Device) { d.Start = 0 }},
		{"start 7e", func(d *api.Device) { d.Start = 126 }},
		{"start ff", func(d *api.Device) { d.Start = 255 }},
		{"escape 00 ff", func(d *api.Device) { d.Escape, d.Mix = 0, 255 }},
		{"escape ff 00", func(d *api.Device) { d.Escape, d.Mix = 255, 0 }},
		{"escape 02 02", func(d *api.Device) { d.Escape, d.Mix = 2, 2 }},
		{"size 1", func(d *api.Device) { d.Size = 1 }},
		{"size 32", func(d *api.Device) { d.Size = 32 }},
		{"request 00", func(d *api.Device) { d.Request = []byte{0} }},
		{"request " + strings.Repeat("a5", 16), func(d *api.Device) { d.Request = slices.Repeat([]byte{0xa5}, 16) }},
		{"poll 1", func(d *api.Device) { d.Poll = 1 }},
		{"poll 1000", func(d *api.Device) { d.Poll = 1000 }},
		{"timeout 1", func(d *api.Device) { d.Timeout = 1 }},
		{"timeout 1000", func(d *api.Device) { d.Timeout = 1000 }},
		{"age 1", func(d *api.Device) { d.Age = 1 }},
		{"age 1000", func(d *api.Device) { d.Age = 1000 }},
		{"retries 0", func(d *api.Device) { d.Retries = 0 }},
		{"retries 10", func(d *api.Device) { d.Retries = 10 }},
	} {
		word, _, _ := strings.Cut(c.line, " ")
		want := pump()
		c.set(&want)
		read(t, rowsOf(append(without(word), c.line)...), want)
		read(t, rowsOf(append([]string{c.line}, without(word)...)...), want)
	}
}

// Promise 8.1: what a line of field may have, to the ends of 64 bits.
func TestRightFields(t *testing.T) {
	const most, least = 1<<63 - 1, -1 << 63
	for _, c := range []struct {
		line string
		want api.Field
	}{
		{"field a 0 b 1 0/1 0/1 d", api.Field{Name: "a", At: 0, Kind: "b", Width: 1, Scale: api.Ratio{N: 0, D: 1}, Offset: api.Ratio{N: 0, D: 1}, Unit: "d"}},
		{"field abcdefghijk9 31 nosuchkind01 8 -1/3 7/2 nosuchunit01", api.Field{Name: "abcdefghijk9", At: 31, Kind: "nosuchkind01", Width: 8, Scale: api.Ratio{N: -1, D: 3}, Offset: api.Ratio{N: 7, D: 2}, Unit: "nosuchunit01"}},
		{"field field 17 device 5 9223372036854775807/1 1/9223372036854775807 sum", api.Field{Name: "field", At: 17, Kind: "device", Width: 5, Scale: api.Ratio{N: most, D: 1}, Offset: api.Ratio{N: 1, D: most}, Unit: "sum"}},
		{"field x 9 y 3 -9223372036854775808/1 -9223372036854775808/9223372036854775807 z", api.Field{Name: "x", At: 9, Kind: "y", Width: 3, Scale: api.Ratio{N: least, D: 1}, Offset: api.Ratio{N: least, D: most}, Unit: "z"}},
	} {
		want := pump()
		want.Fields = []api.Field{c.want}
		read(t, rowsOf(append(without("field"), c.line)...), want)
	}
}

// The words that are none of a kind, whatever stands behind.
var (
	noNames   = []string{"", "A", "Pump", "1a", "0", "-a", "a-b", "a_b", "a.b", "a b", " a", "a ", "#", "#a", "abcdefghijklm", "\u00e9", "a\xff", "a\x00", "a\n"}
	noBytes   = []string{"", "0", "2", "002", "0202", "020202", "0x", "0x02", "x2", "2x", "1B", "FF", "g0", "0g", " 2", "2 ", "02 ", "-1", "+2", "2h", "\u00e9", "\x002", "\xff\xff", "0\n"}
	noNumbers = []string{"", "x", "-", "+1", "-0", "00", "01", "007", "1.0", "1/1", "0x1", "1e1", "1_0", " 1", "1 ", "1\n", "\uff11", "1x", "9223372036854775808", "18446744073709551617", "4294967297", "-18446744073709551615", "-1"}
	noRatios  = []string{"", "1", "/", "1/", "/1", "1/0", "0/0", "0/2", "2/2", "2/4", "-3/6", "10/10", "1/-1", "-1/-1", "-0/1", "01/2", "1/02", "1/2/3", "1//2", "+1/2", "1 /2", " 1/2", "1/2 ", "1:2", "a/b", "1/b", "0.5", "1/9223372036854775808", "9223372036854775808/1", "-9223372036854775809/1", "-9223372036854775808/-9223372036854775808"}
)

// wrongWords: for each first word of which there is one line, what may not stand behind it.
func wrongWords() map[string][][]string {
	wrong := map[string][][]string{}
	add := func(to string, words ...string) { wrong[to] = append(wrong[to], words) }
	for _, word := range mustWords {
		add(word)
		add(word, "")
		add(word, "", "")
	}
	for _, word := range []string{"device", "sum"} {
		add(word, "a", "b")
		add(word, "a", "")
		add(word, "", "a")
		for _, w := range noNames {
			add(word, w)
		}
	}
	add("start", "02", "02")
	add("escape", "1b")
	add("escape", "1b20")
	add("escape", "1b", "20", "20")
	for _, w := range noBytes {
		add("start", w)
		add("escape", w, "20")
		add("escape", "1b", w)
	}
	for word, ends := range map[string][]string{"size": {"0", "33", "256", "1000"}, "poll": {"0", "1001"}, "timeout": {"0", "1001"}, "age": {"0", "1001"}, "retries": {"11", "1000"}} {
		add(word, "1", "1")
		add(word, "1", "")
		for _, w := range append(ends, noNumbers...) {
			add(word, w)
		}
	}
	add("request", "05", "01")
	add("request", strings.Repeat("00", 17))
	add("request", strings.Repeat("00", 256))
	add("request", strings.Repeat("0", 31))
	for _, w := range []string{"", "0", "050", "5", "0x05", "AB", "ag", "05 01", "05-01", "\u00e9", "0501\n"} {
		add("request", w)
	}
	return wrong
}

// Promise 8.1: each line of the table with what isn't as it says: ErrForm, with its number, whatever the other lines are.
func TestWrongLines(t *testing.T) {
	for word, list := range wrongWords() {
		for _, words := range list {
			line := append([]string{word}, words...)
			rest := rowsOf(without(word)...)
			refused(t, []lex.Row{{Line: 1, Words: line}}, 1, api.ErrForm)
			refused(t, append(rest, lex.Row{Line: 99, Words: line}), 99, api.ErrForm)
			refused(t, append([]lex.Row{{Line: 77, Words: line}}, rest...), 77, api.ErrForm)
		}
	}
}

// Promise 8.1: a line of field with one wrong word, with a word less, with a word more.
func TestWrongFields(t *testing.T) {
	right := []string{"x", "0", "be", "2", "1/10", "0/1", "c"}
	wrong := [][]string{{}, {""}, slices.Repeat([]string{""}, 7), slices.Concat(right, []string{""}), slices.Concat(right, []string{"c"}), slices.Concat(right, right), slices.Concat([]string{"field"}, right)}
	for i := range right {
		wrong = append(wrong, right[:i], slices.Concat(right[:i], right[i+1:]))
		more := [][]string{noNames, {"32", "33", "256", "1000"}, noNames, {"0", "9", "16", "256"}, noRatios, noRatios, noNames}[i]
		if i == 1 || i == 3 {
			more = append(more, noNumbers...)
		}
		for _, w := range more {
			words := slices.Clone(right)
			words[i] = w
			wrong = append(wrong, words)
		}
	}
	for _, words := range wrong {
		line := append([]string{"field"}, words...)
		refused(t, []lex.Row{{Line: 1, Words: line}}, 1, api.ErrForm)
		refused(t, append(rowsOf(pumpLines...), lex.Row{Line: 13, Words: line}), 13, api.ErrForm)
		refused(t, append([]lex.Row{{Line: 5, Words: line}}, rowsOf(pumpLines...)...), 5, api.ErrForm)
	}
}

// Promise 8.1: a line without words, and one whose first word is none of the table's.
func TestUnknownWords(t *testing.T) {
	lists := [][]string{nil, {}, {""}, {"", "device", "pump"}}
	for _, w := range []string{"speed", "Device", "DEVICE", "devic", "devices", " device", "device ", "device pump", "fields", "Field", "name", "mix", "offset", "scale", "unit", "kind", "width", "queue", "port", "retry", "#", "#device", "1", "poll\x00", "p\xf6ll", "\xff"} {
		lists = append(lists, []string{w}, []string{w, "5"}, []string{w, "pump"})
	}
	for _, words := range lists {
		line := lex.Row{Line: 13, Words: words}
		refused(t, []lex.Row{line}, 13, api.ErrForm)
		refused(t, append(rowsOf(pumpLines...), line), 13, api.ErrForm)
		refused(t, append([]lex.Row{line}, rowsOf(pumpLines...)...), 13, api.ErrForm)
		refused(t, append([]lex.Row{line}, rowsOf("poll x")...), 13, api.ErrForm)
	}
}

// Promise 8.1: each first word but field, a second time: ErrTwice, ahead of what stands behind it.
func TestTwice(t *testing.T) {
	for i, word := range mustWords {
		for _, again := range []string{pumpLines[i], word, word + " ?", word + " 1 2 3"} {
			refused(t, append(rowsOf(pumpLines...), row(20, again)), 20, api.ErrTwice)
			refused(t, []lex.Row{row(4, pumpLines[i]), row(6, again)}, 6, api.ErrTwice)
			refused(t, []lex.Row{row(4, pumpLines[i]), row(5, "field x 0 be 2 1/10 0/1 c"), row(6, again), row(7, "speed")}, 6, api.ErrTwice)
		}
		refused(t, rowsOf(word+" ?", pumpLines[i]), 1, api.ErrForm)
		refused(t, rowsOf(word+" ?", word+" ?"), 1, api.ErrForm)
	}
	// Two lines of field may be alike: what they are is asked elsewhere.
	want := pump()
	want.Fields = append(want.Fields, want.Fields[0])
	read(t, rowsOf(append(slices.Clone(pumpLines), pumpLines[10])...), want)
}

// Promise 8.1: eight lines of field, and the ninth: ErrSize, ahead of what stands behind it.
func TestNinthField(t *testing.T) {
	lines, want := without("field"), pump()
	want.Fields = nil
	for i := range 8 {
		lines = append(lines, "field f"+strconv.Itoa(i)+" "+strconv.Itoa(i)+" le 1 1/1 0/1 one")
		want.Fields = append(want.Fields, api.Field{Name: "f" + strconv.Itoa(i), At: i, Kind: "le", Width: 1, Scale: api.Ratio{N: 1, D: 1}, Offset: api.Ratio{N: 0, D: 1}, Unit: "one"})
		read(t, rowsOf(lines...), want)
		if i < 7 {
			refused(t, append(rowsOf(lines...), row(50, "field")), 50, api.ErrForm)
		}
	}
	for _, ninth := range []string{"field x 0 be 2 1/10 0/1 c", "field", "field x", "field X 99 b? 0 2/4 1 C", lines[17]} {
		refused(t, append(rowsOf(lines...), row(60, ninth)), 60, api.ErrSize)
		refused(t, append(rowsOf(lines[10:]...), row(61, ninth), row(62, "speed")), 61, api.ErrSize)
	}
	// Which one is the ninth hangs on where the lines stand, and a wrong one ahead of it is told first.
	refused(t, append([]lex.Row{row(40, "field x 0 be 2 1/10 0/1 c")}, rowsOf(lines...)...), 18, api.ErrSize)
	refused(t, append([]lex.Row{row(40, "field x")}, rowsOf(lines...)...), 40, api.ErrForm)
	refused(t, append(rowsOf(lines...), row(70, "fields")), 70, api.ErrForm)
	refused(t, append(rowsOf(lines...), row(71, "poll")), 71, api.ErrTwice)
}

// Promise 8.1: ErrLack, at 0, if lines of any of the words but field are left out, and of no others.
func TestLack(t *testing.T) {
	for left := range 1 << len(mustWords) {
		var rows []lex.Row
		for i := range mustWords {
			if left>>i&1 == 0 {
				rows = append(rows, row(i+1, pumpLines[i]))
			}
		}
		fields := append(rows, rowsOf(pumpLines[10:]...)...)
		if left == 0 {
			read(t, fields, pump())
			continue
		}
		refused(t, rows, 0, api.ErrLack)
		refused(t, fields, 0, api.ErrLack)
	}
	for _, word := range mustWords {
		// What is wrong in a line goes ahead of what has none; a word elsewhere in a line is none of its own.
		refused(t, append(rowsOf(without(word)...), row(30, "speed 9")), 30, api.ErrForm)
		refused(t, append(rowsOf(without(word)...), row(30, "field "+word+" 0 "+word+" 1 1/1 0/1 "+word)), 0, api.ErrLack)
	}
}

// Promise 8.1: the place is the row's own number, whatever it is, not where it stands; the first wrong line is told.
func TestPlaces(t *testing.T) {
	for _, n := range []int{1, 2, 7, 4000, 1 << 40, 0, -1, -1 << 63, 1<<63 - 1} {
		refused(t, []lex.Row{row(5, "poll 1"), row(n, "speed 9"), row(6, "poll 2"), row(n+1, "size 99")}, n, api.ErrForm)
		refused(t, []lex.Row{row(5, "poll 1"), row(n, "poll 1"), row(6, "speed 9")}, n, api.ErrTwice)
		refused(t, []lex.Row{row(5, "poll 1"), row(n, "size 0"), row(6, "poll 2")}, n, api.ErrForm)
		refused(t, []lex.Row{row(n, "poll 1"), row(n, "size 1")}, 0, api.ErrLack)
	}
	rows := rowsOf(pumpLines...)
	for i := range rows {
		rows[i].Line = -7
	}
	read(t, rows, pump())
}

// Promise 8.2: Rows' error with its place goes ahead of Read's, wherever that one is.
func TestParse(t *testing.T) {
	text := strings.Join(pumpLines, "\n")
	long := text + "\n#" + strings.Repeat("x", 3998-len(text))
	for _, s := range []string{text, text + "\n", "\n\n" + text, "# remark\n" + text + "\n   # remark", strings.ReplaceAll(text, " ", "   "), strings.ReplaceAll(text, "\n", "  \n\n  "), long} {
		if d, n, e := Parse(s); !same(d, pump()) || n != 0 || e != api.OK {
			t.Errorf("Parse(%.300q) = %v, %d, %d", s, d, n, e)
		}
	}
	for _, c := range []struct {
		s  string
		at int
		e  api.Errno
	}{
		{"\n\n# x\n  \n", 0, api.ErrLack}, {text[12:], 0, api.ErrLack},
		{long + "x", 0, api.ErrSize}, {strings.Repeat("speed 9\n", 501), 0, api.ErrSize}, {strings.Repeat("\xff", 4001), 0, api.ErrSize},
		{"speed 9\n\t", 2, api.ErrForm}, {"poll 1\npoll 2\n\n# \x7f", 4, api.ErrForm}, {text + "\r", 12, api.ErrForm}, {strings.ReplaceAll(text, "\n", "\r\n"), 1, api.ErrForm}, {text + "\n\u00e9", 13, api.ErrForm},
		{"\n# x\nspeed 9\npoll x", 3, api.ErrForm}, {text + "\n\n\npoll 5", 15, api.ErrTwice}, {text + strings.Repeat("\n\n"+pumpLines[11], 7), 26, api.ErrSize}, {"#\nsize 33\nsize 33", 2, api.ErrForm}, {text + "\n device", 13, api.ErrTwice},
	} {
		if d, n, e := Parse(c.s); !same(d, api.Device{}) || n != c.at || e != c.e {
			t.Errorf("Parse(%.300q) = %v, %d, %d; not %d, %d", c.s, d, n, e, c.at, c.e)
		}
	}
}

// Promise 8.4: lines in each order of two of them, and in orders by chance: the same device, its fields in the order of their lines.
func TestOrders(t *testing.T) {
	check := func(lines []string) {
		t.Helper()
		want := pump()
		if slices.Index(lines, pumpLines[11]) < slices.Index(lines, pumpLines[10]) {
			slices.Reverse(want.Fields)
		}
		read(t, rowsOf(lines...), want)
		if d, n, e := Parse(strings.Join(lines, "\n")); !same(d, want) || n != 0 || e != api.OK {
			t.Errorf("Parse(%q) = %v, %d, %d", lines, d, n, e)
		}
	}
	for i := range pumpLines {
		for j := range pumpLines {
			lines := slices.Clone(pumpLines)
			lines[i], lines[j] = lines[j], lines[i]
			check(lines)
		}
	}
	r := rand.New(rand.NewSource(84))
	for range 2000 {
		lines := slices.Clone(pumpLines)
		r.Shuffle(len(lines), func(i, j int) { lines[i], lines[j] = lines[j], lines[i] })
		check(lines)
	}
	lines := slices.Clone(pumpLines)
	slices.Reverse(lines)
	check(lines)
}

// modelParts: what each of the model's words must be like behind the first one.
var (
	modelName  = regexp.MustCompile(`\A[a-z][a-z0-9]{0,11}\z`)
	modelByte  = regexp.MustCompile(`\A[0-9a-f]{2}\z`)
	modelBytes = regexp.MustCompile(`\A([0-9a-f]{2}){1,16}\z`)
	modelSize  = regexp.MustCompile(`\A([1-9]|[12][0-9]|3[0-2])\z`)
	modelTime  = regexp.MustCompile(`\A([1-9][0-9]{0,2}|1000)\z`)
	modelMore  = regexp.MustCompile(`\A([0-9]|10)\z`)
	modelAt    = regexp.MustCompile(`\A([0-9]|[12][0-9]|3[01])\z`)
	modelWidth = regexp.MustCompile(`\A[1-8]\z`)
	modelRatio = regexp.MustCompile(`\A(0|-?[1-9][0-9]*)/([1-9][0-9]*)\z`)
	modelParts = map[string][]*regexp.Regexp{
		"device": {modelName}, "sum": {modelName}, "start": {modelByte}, "escape": {modelByte, modelByte}, "size": {modelSize}, "request": {modelBytes},
		"poll": {modelTime}, "timeout": {modelTime}, "age": {modelTime}, "retries": {modelMore},
		"field": {modelName, modelAt, modelName, modelWidth, modelRatio, modelRatio, modelName},
	}
)

// modelRight tells whether a word is what a part says: its shape, and of a fraction that its numbers fit and nothing divides both.
func modelRight(part *regexp.Regexp, w string) bool {
	if part != modelRatio || !part.MatchString(w) {
		return part.MatchString(w)
	}
	m := part.FindStringSubmatch(w)
	n, _ := new(big.Int).SetString(m[1], 10)
	d, _ := new(big.Int).SetString(m[2], 10)
	return n.IsInt64() && d.IsInt64() && new(big.Int).GCD(nil, nil, new(big.Int).Abs(n), d).Cmp(big.NewInt(1)) == 0
}

// modelFault: of a line, behind given ones that are right, what is wrong.
func modelFault(ahead []lex.Row, words []string) api.Errno {
	if len(words) == 0 || modelParts[words[0]] == nil {
		return api.ErrForm
	}
	before := 0
	for _, r := range ahead {
		if r.Words[0] == words[0] {
			before++
		}
	}
	if words[0] != "field" && before > 0 {
		return api.ErrTwice
	}
	if words[0] == "field" && before >= 8 {
		return api.ErrSize
	}
	parts := modelParts[words[0]]
	if len(parts) != len(words)-1 {
		return api.ErrForm
	}
	for i, p := range parts {
		if !modelRight(p, words[i+1]) {
			return api.ErrForm
		}
	}
	return api.OK
}

// modelDevice: the device of lines, all of which are right, and none of which lacks.
func modelDevice(rows []lex.Row) api.Device {
	number := func(w string, base int) int {
		n, _ := strconv.ParseInt(w, base, 64)
		return int(n)
	}
	fraction := func(w string) api.Ratio {
		m := strings.Split(w, "/")
		return api.Ratio{N: int64(number(m[0], 10)), D: int64(number(m[1], 10))}
	}
	of := map[string][]string{}
	var d api.Device
	for _, r := range rows {
		w := r.Words
		of[w[0]] = w[1:]
		if w[0] == "field" {
			d.Fields = append(d.Fields, api.Field{Name: w[1], At: number(w[2], 10), Kind: w[3], Width: number(w[4], 10), Scale: fraction(w[5]), Offset: fraction(w[6]), Unit: w[7]})
		}
	}
	d.Name, d.Sum = of["device"][0], of["sum"][0]
	d.Start, d.Escape, d.Mix = number(of["start"][0], 16), number(of["escape"][0], 16), number(of["escape"][1], 16)
	d.Size, d.Poll, d.Timeout = number(of["size"][0], 10), number(of["poll"][0], 10), number(of["timeout"][0], 10)
	d.Age, d.Retries = number(of["age"][0], 10), number(of["retries"][0], 10)
	for w := of["request"][0]; w != ""; w = w[2:] {
		d.Request = append(d.Request, byte(number(w[:2], 16)))
	}
	return d
}

// model: what Read is to answer.
func model(rows []lex.Row) (api.Device, int, api.Errno) {
	for i, r := range rows {
		if e := modelFault(rows[:i], r.Words); e != api.OK {
			return api.Device{}, r.Line, e
		}
	}
	for word := range modelParts {
		if word != "field" && !slices.ContainsFunc(rows, func(r lex.Row) bool { return r.Words[0] == word }) {
			return api.Device{}, 0, api.ErrLack
		}
	}
	return modelDevice(rows), 0, api.OK
}

// rightWords: words that may stand in a line, a few at each place.
func rightWords(r *rand.Rand, word string) []string {
	some := func(list ...string) string { return list[r.Intn(len(list))] }
	name := func() string { return some("a", "pump", "be", "crc16", "abcdefghijkl", "z9", "device", "field") }
	pair := func() string { return some("00", "02", "1b", "7e", "a9", "ff") }
	part := func() string {
		return some("0/1", "1/1", "-1/1", "1/10", "-5/9", "9223372036854775807/2", "-9223372036854775808/3", "7/9223372036854775807")
	}
	upTo := func(least, most int) string { return strconv.Itoa(least + r.Intn(most-least+1)) }
	switch word {
	case "device", "sum":
		return []string{name()}
	case "start":
		return []string{pair()}
	case "escape":
		return []string{pair(), pair()}
	case "size":
		return []string{upTo(1, 32)}
	case "request":
		w := ""
		for range 1 + r.Intn(16) {
			w += pair()
		}
		return []string{w}
	case "retries":
		return []string{upTo(0, 10)}
	case "field":
		return []string{name(), upTo(0, 31), name(), upTo(1, 8), part(), part(), name()}
	}
	return []string{upTo(1, 1000)}
}

// spoil changes something in a line by chance.
func spoil(r *rand.Rand, words []string) []string {
	at := r.Intn(len(words))
	switch r.Intn(4) {
	case 0:
		return slices.Delete(words, at, at+1)
	case 1:
		return slices.Insert(words, at, "1")
	case 2:
		words[at] += []string{"0", "a", "/", " ", "-"}[r.Intn(5)]
		return words
	}
	lists := [][]string{noNames, noBytes, noNumbers, noRatios, mustWords, {"a", "00", "0", "1/1"}}
	list := lists[r.Intn(len(lists))]
	words[at] = list[r.Intn(len(list))]
	return words
}

// Promises 8.1 and 8.4: lines by chance, whole or not, some of them spoilt, are as in the model.
func TestModel(t *testing.T) {
	r := rand.New(rand.NewSource(81))
	told := map[api.Errno]int{}
	for range 20000 {
		var rows []lex.Row
		for _, word := range mustWords {
			if r.Intn(80) > 0 {
				rows = append(rows, lex.Row{Words: append([]string{word}, rightWords(r, word)...)})
			}
		}
		for range r.Intn(11) * r.Intn(2) {
			rows = append(rows, lex.Row{Words: append([]string{"field"}, rightWords(r, "field")...)})
		}
		if r.Intn(10) == 0 {
			word := mustWords[r.Intn(len(mustWords))]
			rows = append(rows, lex.Row{Words: append([]string{word}, rightWords(r, word)...)})
		}
		r.Shuffle(len(rows), func(i, j int) { rows[i], rows[j] = rows[j], rows[i] })
		for i := range rows {
			rows[i].Line = 1 + r.Intn(100)
			if r.Intn(25) == 0 {
				rows[i].Words = spoil(r, rows[i].Words)
			}
		}
		d, n, e := Read(rows)
		want, at, fault := model(rows)
		told[e]++
		if !same(d, want) || n != at || e != fault {
			t.Fatalf("Read(%v) = %v, %d, %d; not %v, %d, %d", rows, d, n, e, want, at, fault)
		}
	}
	for _, e := range []api.Errno{api.OK, api.ErrForm, api.ErrTwice, api.ErrSize, api.ErrLack} {
		if told[e] < 100 {
			t.Errorf("only %d answers are %d", told[e], e)
		}
	}
}

// blocksAre asks for blocks, written as the lines of each.
func blocksAre(t *testing.T, rows []lex.Row, want ...[]lex.Row) {
	t.Helper()
	if got := Blocks(rows); !slices.EqualFunc(got, want, sameRows) {
		t.Errorf("Blocks(%v) = %v; not %v", rows, got, want)
	}
}

// Promise 8.3: no lines, none of device, lines ahead of the first, one block behind the other.
func TestBlocks(t *testing.T) {
	blocksAre(t, nil)
	blocksAre(t, []lex.Row{})
	a, b, c := row(1, "device a"), row(2, "device b"), row(2, "device a")
	x, y, bare := row(8, "poll 5"), row(-9, "speed"), row(4, "device")
	none, blank := lex.Row{Line: 3}, lex.Row{Line: 3, Words: []string{}}
	for _, one := range []lex.Row{a, x, y, bare, none, blank, row(0, "")} {
		blocksAre(t, []lex.Row{one}, []lex.Row{one})
	}
	blocksAre(t, []lex.Row{x, y}, []lex.Row{x, y})
	blocksAre(t, []lex.Row{a, x, y}, []lex.Row{a, x, y})
	blocksAre(t, []lex.Row{x, a}, []lex.Row{x}, []lex.Row{a})
	blocksAre(t, []lex.Row{x, y, a, x}, []lex.Row{x, y}, []lex.Row{a, x})
	blocksAre(t, []lex.Row{a, b}, []lex.Row{a}, []lex.Row{b})
	blocksAre(t, []lex.Row{a, a, c, c}, []lex.Row{a}, []lex.Row{a}, []lex.Row{c}, []lex.Row{c})
	blocksAre(t, []lex.Row{x, a, y, bare, x, b, x, y}, []lex.Row{x}, []lex.Row{a, y}, []lex.Row{bare, x}, []lex.Row{b, x, y})
	blocksAre(t, []lex.Row{none, a, none, blank, b, blank}, []lex.Row{none}, []lex.Row{a, none, blank}, []lex.Row{b, blank})
	// Only the first word counts, and only device itself.
	for _, l := range []string{"sum device", "field device 0 device 1 1/1 0/1 device", "Device a", "devices a", "devic a", " device a", "#device a"} {
		blocksAre(t, []lex.Row{a, row(5, l), x}, []lex.Row{a, row(5, l), x})
	}
}

// Promise 8.3: by chance: all lines, in order; but for the first line, those that begin with device begin a block, no others do.
func TestBlocksAll(t *testing.T) {
	r := rand.New(rand.NewSource(83))
	for range 3000 {
		rows := make([]lex.Row, r.Intn(20))
		for i := range rows {
			rows[i].Line = r.Intn(30) - 5
			for range r.Intn(3) {
				rows[i].Words = append(rows[i].Words, []string{"device", "poll", "x", ""}[r.Intn(4)])
			}
		}
		blocks := Blocks(rows)
		if !sameRows(slices.Concat(blocks...), rows) {
			t.Fatalf("Blocks(%v) = %v", rows, blocks)
		}
		for i, b := range blocks {
			for j, l := range b {
				begins := len(l.Words) > 0 && l.Words[0] == "device"
				if begins != (j == 0) && (i > 0 || j > 0) {
					t.Fatalf("Blocks(%v) = %v: line %d of block %d", rows, blocks, j, i)
				}
			}
			if len(b) == 0 {
				t.Fatalf("Blocks(%v) = %v: block %d is empty", rows, blocks, i)
			}
		}
	}
}

// roomy answers rows in one piece of memory, with spare room behind them and behind their words.
func roomy() ([]lex.Row, func() bool) {
	lines := append([]string{"speed 9"}, slices.Concat(pumpLines, pumpLines)...)
	words := make([]string, 0, 400)
	rows := make([]lex.Row, 0, 60)
	for i, l := range lines {
		from := len(words)
		words = append(words, strings.Split(l, " ")...)
		rows = append(rows, lex.Row{Line: i + 1, Words: words[from:len(words)]})
	}
	all, spare := words[:cap(words)], rows[:cap(rows)]
	for i := len(words); i < cap(words); i++ {
		all[i] = "spare"
	}
	for i := len(rows); i < cap(rows); i++ {
		spare[i] = lex.Row{Line: 1000 + i, Words: all[len(words) : len(words)+1]}
	}
	wordsBefore, rowsBefore := slices.Clone(all), copied(spare)
	return rows, func() bool { return slices.Equal(all, wordsBefore) && sameRows(spare, rowsBefore) }
}

// Promises 8.1 and 8.3: what is handed in isn't changed, spare room included.
func TestNothingChanged(t *testing.T) {
	rows, unchanged := roomy()
	Read(rows)
	Read(rows[1:])
	read(t, rows[1:13], pump())
	if Blocks(rows); !unchanged() {
		t.Error("what was handed in is changed")
	}
	for _, b := range Blocks(rows) {
		b = b[:cap(b)]
		for i := range b {
			for j := range b[i].Words[:cap(b[i].Words)] {
				b[i].Words[:cap(b[i].Words)][j] = "y"
			}
			b[i] = row(99, "y")
		}
	}
	d, _, _ := Read(rows[1:13])
	scribble(d)
	if !unchanged() {
		t.Error("what is handed out shares memory with what was handed in")
	}
}

// scribble writes over a device's lists, spare room included.
func scribble(d api.Device) {
	fields, request := d.Fields[:cap(d.Fields)], d.Request[:cap(d.Request)]
	for i := range fields {
		fields[i] = api.Field{Name: "y"}
	}
	for i := range request {
		request[i] = 99
	}
}

// Promises 8.1, 8.2 and 8.3: what is handed out is new each time, and no two lists of one answer share memory.
func TestNewMemory(t *testing.T) {
	rows := rowsOf(pumpLines...)
	first, _, _ := Read(rows)
	second, _, _ := Read(rows)
	third, _, _ := Parse(strings.Join(pumpLines, "\n"))
	scribble(first)
	if !same(second, pump()) || !same(third, pump()) {
		t.Errorf("%v, %v", second, third)
	}
	scribble(third)
	read(t, rows, pump())

	text := rowsOf(append([]string{"speed 9"}, slices.Concat(pumpLines, pumpLines)...)...)
	blocks := Blocks(text)
	for i := range blocks {
		for j := range blocks[i] {
			fresh := Blocks(text)
			words := fresh[i][j].Words[:cap(fresh[i][j].Words)]
			for k := range words {
				words[k] = "y"
			}
			fresh[i][j].Words = blocks[i][j].Words
			if !slices.EqualFunc(fresh, blocks, sameRows) || !sameRows(slices.Concat(blocks...), text) {
				t.Fatalf("words of line %d of block %d share memory", j, i)
			}
		}
		fresh := Blocks(text)
		list := fresh[i][:cap(fresh[i])]
		for j := range list {
			list[j] = row(99, "y")
		}
		fresh[i] = blocks[i]
		if !slices.EqualFunc(fresh, blocks, sameRows) {
			t.Fatalf("lines of block %d share memory", i)
		}
	}
}

// Promise 8.1: what a call answers hangs on its lines alone, however often it is asked, though maps are gone through in any order.
func TestAgain(t *testing.T) {
	for range 300 {
		read(t, rowsOf(pumpLines...), pump())
		refused(t, rowsOf(without("age")...), 0, api.ErrLack)
		refused(t, rowsOf("poll 5", "age 5", "poll x", "age x"), 3, api.ErrTwice)
	}
}
