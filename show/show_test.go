package show

import (
	"fmt"
	"math"
	"math/rand"
	"slices"
	"strconv"
	"strings"
	"testing"

	"lancet/api"
	"lancet/desc"
	"lancet/lex"
	"lancet/sound"
)

// rate is a field that is right in each payload of four bytes or more.
func rate() api.Field {
	return api.Field{Name: "rate", At: 2, Kind: "be", Width: 2, Scale: api.Ratio{N: 1, D: 10}, Offset: api.Ratio{N: 0, D: 1}, Unit: "mlh"}
}

// pump is a sound device, of which pumpText is the text.
func pump() api.Device {
	temp := api.Field{Name: "temp", At: 0, Kind: "sle", Width: 2, Scale: api.Ratio{N: 1, D: 100}, Offset: api.Ratio{N: -5, D: 2}, Unit: "c"}
	return api.Device{
		Name: "pump", Start: 2, Escape: 27, Mix: 32, Size: 6, Sum: "crc16", Fields: []api.Field{rate(), temp},
		Request: []byte{5, 1}, Poll: 10, Timeout: 3, Retries: 2, Age: 30,
	}
}

const pumpText = `device pump
start 02
escape 1b 20
size 6
sum crc16
field rate 2 be 2 1/10 0/1 mlh
field temp 0 sle 2 1/100 -5/2 c
request 0501
poll 10
timeout 3
retries 2
age 30
`

// least is a sound device of the least numbers that there are, of which leastText is the text.
func least() api.Device {
	return api.Device{Name: "a", Start: 0, Escape: 1, Mix: 2, Size: 1, Sum: "none", Request: []byte{0}, Poll: 2, Timeout: 1, Age: 2}
}

const leastText = "device a\nstart 00\nescape 01 02\nsize 1\nsum none\nrequest 00\npoll 2\ntimeout 1\nretries 0\nage 2\n"

// most is a sound device of the greatest numbers that there are, of which mostText is the text.
func most() api.Device {
	d := api.Device{
		Name: "abcdefghijkl", Start: 255, Escape: 254, Mix: 255, Size: 32, Sum: "fletcher",
		Request: []byte{255, 254, 0, 16, 1, 171, 186, 9, 144, 10, 160, 15, 240, 31, 241, 255}, Poll: 1000, Timeout: 999, Retries: 10, Age: 1000,
	}
	for i, name := range strings.Split("z23456789012 g b c d e f a", " ") {
		d.Fields = append(d.Fields, api.Field{
			Name: name, At: 31 - i, Kind: "dec", Width: 1 + i, Unit: "cmho",
			Scale: api.Ratio{N: math.MinInt64, D: math.MaxInt64}, Offset: api.Ratio{N: math.MaxInt64, D: 1},
		})
	}
	return d
}

const mostText = `device abcdefghijkl
start ff
escape fe ff
size 32
sum fletcher
field z23456789012 31 dec 1 -9223372036854775808/9223372036854775807 9223372036854775807/1 cmho
field g 30 dec 2 -9223372036854775808/9223372036854775807 9223372036854775807/1 cmho
field b 29 dec 3 -9223372036854775808/9223372036854775807 9223372036854775807/1 cmho
field c 28 dec 4 -9223372036854775808/9223372036854775807 9223372036854775807/1 cmho
field d 27 dec 5 -9223372036854775808/9223372036854775807 9223372036854775807/1 cmho
field e 26 dec 6 -9223372036854775808/9223372036854775807 9223372036854775807/1 cmho
field f 25 dec 7 -9223372036854775808/9223372036854775807 9223372036854775807/1 cmho
field a 24 dec 8 -9223372036854775808/9223372036854775807 9223372036854775807/1 cmho
request fffe001001abba09900aa00ff01ff1ff
poll 1000
timeout 999
retries 10
age 1000
`

// named answers the pump by another name.
func named(name string) api.Device {
	d := pump()
	d.Name = name
	return d
}

// textOf is a model of what is shown.
func textOf(d api.Device) string {
	var fields string
	for _, f := range d.Fields {
		fields += fmt.Sprintf("field %s %d %s %d %d/%d %d/%d %s\n", f.Name, f.At, f.Kind, f.Width, f.Scale.N, f.Scale.D, f.Offset.N, f.Offset.D, f.Unit)
	}
	return fmt.Sprintf("device %s\nstart %02x\nescape %02x %02x\nsize %d\nsum %s\n%srequest %x\npoll %d\ntimeout %d\nretries %d\nage %d\n",
		d.Name, d.Start, d.Escape, d.Mix, d.Size, d.Sum, fields, d.Request, d.Poll, d.Timeout, d.Retries, d.Age)
}

// same tells whether two devices are alike.
func same(a, b api.Device) bool {
	return a.Name == b.Name && a.Start == b.Start && a.Escape == b.Escape && a.Mix == b.Mix && a.Size == b.Size && a.Sum == b.Sum &&
		slices.Equal(a.Fields, b.Fields) && slices.Equal(a.Request, b.Request) &&
		a.Poll == b.Poll && a.Timeout == b.Timeout && a.Retries == b.Retries && a.Age == b.Age
}

func sameList(a, b []api.Device) bool { return slices.EqualFunc(a, b, same) }

// short cuts what is shown of a failure, which may be very long.
func short(v any) string { return fmt.Sprintf("%.500s", fmt.Sprintf("%+v", v)) }

// thereAndBack asks for a device's text, and reads it.
func thereAndBack(t *testing.T, d api.Device, want string) {
	t.Helper()
	if s, e := Text(d); s != want || e != api.OK {
		t.Fatalf("Text(%s) = %q, %d; not %q", short(d), s, e, want)
	}
	readIs(t, want, d)
}

// textRefused asks for Text's error.
func textRefused(t *testing.T, d api.Device, want api.Errno) {
	t.Helper()
	if s, e := Text(d); s != "" || e != want {
		t.Fatalf("Text(%s) = %.200q, %d; not %d", short(d), s, e, want)
	}
}

// readIs asks for the device that is read.
func readIs(t *testing.T, s string, want api.Device) {
	t.Helper()
	if d, at, e := Read(s); !same(d, want) || at != 0 || e != api.OK {
		t.Fatalf("Read(%.500q) = %s, %d, %d; not %s", s, short(d), at, e, short(want))
	}
}

// readRefused asks for Read's error, with its place.
func readRefused(t *testing.T, s string, at int, want api.Errno) {
	t.Helper()
	if d, n, e := Read(s); !same(d, api.Device{}) || n != at || e != want {
		t.Fatalf("Read(%.500q) = %s, %d, %d; not %d, %d", s, short(d), n, e, at, want)
	}
}

// allIs asks for All's answer.
func allIs(t *testing.T, l []api.Device, text string, want api.Errno) {
	t.Helper()
	if s, e := All(l); s != text || e != want {
		t.Fatalf("All(%d devices, %s) = %.500q, %d; not %.500q, %d", len(l), short(l), s, e, text, want)
	}
}

// devicesAre asks for the devices that are read.
func devicesAre(t *testing.T, s string, want ...api.Device) {
	t.Helper()
	if l, at, e := Devices(s); !sameList(l, want) || at != 0 || e != api.OK {
		t.Fatalf("Devices(%.500q) = %s, %d, %d; not %s", s, short(l), at, e, short(want))
	}
	linesAre(t, rowsOf(s), want...)
}

// devicesRefused asks for Devices's error, with its place.
func devicesRefused(t *testing.T, s string, at int, want api.Errno) {
	t.Helper()
	if l, n, e := Devices(s); len(l) != 0 || n != at || e != want {
		t.Fatalf("Devices(%.500q) = %s, %d, %d; not %d, %d", s, short(l), n, e, at, want)
	}
}

// linesAre asks for the devices that lines are read as.
func linesAre(t *testing.T, rows []lex.Row, want ...api.Device) {
	t.Helper()
	if l, at, e := Lines(rows); !sameList(l, want) || at != 0 || e != api.OK {
		t.Fatalf("Lines(%s) = %s, %d, %d; not %s", short(rows), short(l), at, e, short(want))
	}
}

// linesRefused asks for Lines's error, with its place.
func linesRefused(t *testing.T, rows []lex.Row, at int, want api.Errno) {
	t.Helper()
	if l, n, e := Lines(rows); len(l) != 0 || n != at || e != want {
		t.Fatalf("Lines(%s) = %s, %d, %d; not %d, %d", short(rows), short(l), n, e, at, want)
	}
}

// rowsOf answers the lines of a text that count.
func rowsOf(s string) []lex.Row {
	var rows []lex.Row
	for i, line := range strings.Split(s, "\n") {
		if words := strings.Fields(line); len(words) > 0 && words[0][0] != '#' {
			rows = append(rows, lex.Row{Line: i + 1, Words: words})
		}
	}
	return rows
}

// linesOf answers the lines of a text that begin with a word.
func linesOf(s, word string) string {
	var found []string
	for _, line := range strings.Split(s, "\n") {
		if strings.HasPrefix(line, word+" ") {
			found = append(found, line)
		}
	}
	return strings.Join(found, "\n")
}

// Promise 10.1: the chapter's example.
func TestExample(t *testing.T) {
	d := pump()
	d.Escape, d.Mix = 27, 32
	s, e := Text(d)
	if linesOf(s, "escape") != "escape 1b 20" || e != api.OK {
		t.Errorf("Text = %q, %d", s, e)
	}
	readIs(t, s, d)
}

// Promises 10.1 and 10.4: whole texts written out, there and back.
func TestTexts(t *testing.T) {
	thereAndBack(t, pump(), pumpText)
	thereAndBack(t, least(), leastText)
	thereAndBack(t, most(), mostText)
	for _, d := range []api.Device{pump(), least(), most()} {
		if textOf(d) != map[string]string{"pump": pumpText, "a": leastText, "abcdefghijkl": mostText}[d.Name] {
			t.Errorf("the model's text is %q", textOf(d))
		}
	}
}

// Promises 10.1 and 10.4: each byte as two digits, as the start, the escape, the mix and in a request.
func TestBytes(t *testing.T) {
	for b := range 256 {
		for _, mix := range []int{1, 32, 128, 255} {
			d := pump()
			d.Start, d.Escape, d.Mix = b, (b+5)&255, mix
			if sound.Check(d) == api.OK {
				thereAndBack(t, d, strings.Replace(pumpText, "start 02\nescape 1b 20\n", fmt.Sprintf("start %02x\nescape %02x %02x\n", b, (b+5)&255, mix), 1))
			}
		}
		d := least()
		d.Escape, d.Mix = 200, b
		if b != 0 && b != 200 {
			thereAndBack(t, d, strings.Replace(leastText, "01 02", fmt.Sprintf("c8 %02x", b), 1))
		}
		d = least()
		d.Request = []byte{byte(b)}
		thereAndBack(t, d, strings.Replace(leastText, "request 00", fmt.Sprintf("request %02x", b), 1))
		for n := 1; n <= 16; n++ {
			d.Request = slices.Repeat([]byte{byte(b)}, n)
			thereAndBack(t, d, strings.Replace(leastText, "request 00", "request "+strings.Repeat(fmt.Sprintf("%02x", b), n), 1))
		}
	}
}

// Promises 10.1 and 10.4: each number that a device or a field may have.
func TestNumbers(t *testing.T) {
	for n := 1; n <= 1000; n++ {
		d := least()
		d.Poll, d.Age = max(n, 2), 1000
		thereAndBack(t, d, strings.Replace(leastText, "poll 2\ntimeout 1\nretries 0\nage 2\n", "poll "+strconv.Itoa(max(n, 2))+"\ntimeout 1\nretries 0\nage 1000\n", 1))
		d = least()
		d.Age = max(n, 2)
		thereAndBack(t, d, strings.Replace(leastText, "age 2", "age "+strconv.Itoa(max(n, 2)), 1))
		d.Poll, d.Timeout, d.Age = 1000, min(n, 999), 1000
		thereAndBack(t, d, strings.Replace(leastText, "poll 2\ntimeout 1\nretries 0\nage 2\n", "poll 1000\ntimeout "+strconv.Itoa(min(n, 999))+"\nretries 0\nage 1000\n", 1))
	}
	for n := range 11 {
		d := least()
		d.Retries = n
		thereAndBack(t, d, strings.Replace(leastText, "retries 0", "retries "+strconv.Itoa(n), 1))
	}
	for size := 1; size <= 32; size++ {
		d := least()
		d.Size = size
		thereAndBack(t, d, strings.Replace(leastText, "size 1", "size "+strconv.Itoa(size), 1))
		for width := 1; width <= min(8, size); width++ {
			f := rate()
			f.Kind, f.At, f.Width = "dec", size-width, width
			d.Fields = []api.Field{f}
			line := fmt.Sprintf("size %d\nsum none\nfield rate %d dec %d 1/10 0/1 mlh\n", size, size-width, width)
			thereAndBack(t, d, strings.Replace(leastText, "size 1\nsum none\n", line, 1))
		}
	}
}

// Promises 10.1 and 10.4: fractions, as scale and as offset.
func TestFractions(t *testing.T) {
	texts := map[api.Ratio]string{
		{N: 0, D: 1}: "0/1", {N: 1, D: 1}: "1/1", {N: -1, D: 1}: "-1/1", {N: 1, D: 10}: "1/10", {N: -5, D: 2}: "-5/2", {N: 45967, D: 180}: "45967/180",
		{N: math.MaxInt64, D: 1}: "9223372036854775807/1", {N: math.MinInt64, D: 1}: "-9223372036854775808/1",
		{N: 1, D: math.MaxInt64}: "1/9223372036854775807", {N: math.MinInt64, D: math.MaxInt64}: "-9223372036854775808/9223372036854775807",
	}
	for scale, a := range texts {
		for offset, b := range texts {
			d := pump()
			d.Fields[0].Scale, d.Fields[0].Offset = scale, offset
			thereAndBack(t, d, strings.Replace(pumpText, "1/10 0/1", a+" "+b, 1))
		}
	}
}

// Promises 10.1 and 10.4: each kind, unit and sum, and names of every length.
func TestNames(t *testing.T) {
	for _, kind := range strings.Fields("be le sbe sle bcd dec") {
		d := pump()
		d.Fields[0].Kind = kind
		thereAndBack(t, d, strings.Replace(pumpText, "2 be 2", "2 "+kind+" 2", 1))
	}
	for _, unit := range strings.Fields("one pct kg g lb m cm mm in s min h k c f pa kpa mmhg cmho l ml lpm mlh bpm hz") {
		d := pump()
		d.Fields[0].Unit = unit
		thereAndBack(t, d, strings.Replace(pumpText, "mlh", unit, 1))
	}
	for _, sum := range strings.Fields("none sum lrc xor fletcher crc8 crc16 ccitt crc32") {
		d := pump()
		d.Sum = sum
		thereAndBack(t, d, strings.Replace(pumpText, "crc16", sum, 1))
	}
	for _, name := range strings.Fields("a z a0 device field age none abcdefghijk abcdefghijkl z23456789012") {
		thereAndBack(t, named(name), strings.Replace(pumpText, "pump", name, 1))
		d := pump()
		d.Fields[1].Name = name
		thereAndBack(t, d, strings.Replace(pumpText, "temp", name, 1))
	}
}

// Promises 10.1 and 10.4: no field, and up to eight, in their order.
func TestFields(t *testing.T) {
	for n := range 9 {
		d, lines := least(), ""
		d.Fields = []api.Field{}
		for i := n; i > 0; i-- {
			f := rate()
			f.Name, f.At, f.Width = "f"+strconv.Itoa(i*7%9), 0, 1
			d.Fields = append(d.Fields, f)
			lines += "field " + f.Name + " 0 be 1 1/10 0/1 mlh\n"
		}
		thereAndBack(t, d, strings.Replace(leastText, "sum none\n", "sum none\n"+lines, 1))
	}
	d := most()
	slices.Reverse(d.Fields)
	thereAndBack(t, d, textOf(d))
}

// spoiled: what may be wrong in a device, in the order in which chapter 9 tells it.
func spoiled() []struct {
	spoil func(d *api.Device)
	fault api.Errno
} {
	type spoiler = struct {
		spoil func(d *api.Device)
		fault api.Errno
	}
	return []spoiler{
		{func(d *api.Device) { d.Name = "" }, api.ErrForm},
		{func(d *api.Device) { d.Size = 33 }, api.ErrForm},
		{func(d *api.Device) { d.Request = nil }, api.ErrForm},
		{func(d *api.Device) { d.Sum = "md5" }, api.ErrName},
		{func(d *api.Device) { d.Escape = d.Start }, api.ErrClash},
		{func(d *api.Device) { d.Timeout = d.Poll }, api.ErrRange},
		{func(d *api.Device) { d.Fields[0].Kind = "float" }, api.ErrForm},
		{func(d *api.Device) { d.Fields[0].At = 31 }, api.ErrRange},
		{func(d *api.Device) { d.Fields[0].Scale.D = 0 }, api.ErrArg},
		{func(d *api.Device) { d.Fields[0].Unit = "stone" }, api.ErrName},
		{func(d *api.Device) { d.Fields[1].Name = d.Fields[0].Name }, api.ErrTwice},
	}
}

// Promises 10.1 and 10.2: of each set of things that are wrong in a device, the first one is told, and nothing is shown.
func TestTextRefused(t *testing.T) {
	faults := spoiled()
	for set := 1; set < 1<<len(faults); set++ {
		d, want := pump(), api.OK
		for i := len(faults) - 1; i >= 0; i-- {
			if set>>i&1 == 1 {
				faults[i].spoil(&d)
				want = faults[i].fault
			}
		}
		textRefused(t, d, want)
		allIs(t, []api.Device{d}, "", want)
		allIs(t, []api.Device{least(), most(), d, least()}, "", want)
	}
	textRefused(t, api.Device{}, api.ErrForm)
	for _, n := range []int{math.MinInt, -1, 256, math.MaxInt} {
		d := pump()
		d.Start = n
		textRefused(t, d, api.ErrForm)
	}
	d := most()
	d.Fields = append(d.Fields, rate())
	textRefused(t, d, api.ErrForm)
	d = least()
	d.Request = make([]byte, 17)
	textRefused(t, d, api.ErrForm)
}

// Promises 10.1 and 10.4: a device's lines in any order, with blanks and remarks, are the device.
func TestReadOrders(t *testing.T) {
	r := rand.New(rand.NewSource(1))
	for range 300 {
		lines := strings.Split(strings.TrimSuffix(mostText, "\n"), "\n")
		r.Shuffle(len(lines), func(i, j int) { lines[i], lines[j] = lines[j], lines[i] })
		text := "# most\n\n   " + strings.ReplaceAll(strings.Join(lines, "  \n#\n "), " ", "  ")
		d, at, e := Read(text)
		want := most()
		byName := func(a, b api.Field) int { return strings.Compare(a.Name, b.Name) }
		slices.SortFunc(d.Fields, byName)
		slices.SortFunc(want.Fields, byName)
		if !same(d, want) || at != 0 || e != api.OK {
			t.Fatalf("Read(%q) = %v, %d, %d", text, d, at, e)
		}
	}
	readIs(t, strings.TrimSuffix(pumpText, "\n"), pump())
}

// Promise 10.1: Parse's error, with its place, ahead of all that chapter 9 tells.
func TestReadRefused(t *testing.T) {
	clash := strings.Replace(pumpText, "1b 20", "02 20", 1)
	for _, text := range []string{pumpText, clash, strings.Replace(clash, "crc16", "md5", 1)} {
		readRefused(t, text+strings.Repeat("#", 4001-len(text)), 0, api.ErrSize)
		readRefused(t, text+"\n\t\n", 14, api.ErrForm)
		readRefused(t, "\x7f\n"+text, 1, api.ErrForm)
		readRefused(t, text+"speed 9\n", 13, api.ErrForm)
		readRefused(t, text+"\n\nage 31\n", 15, api.ErrTwice)
		readRefused(t, text+text, 13, api.ErrTwice)
		readRefused(t, strings.Replace(text, "size 6", "size 33", 1), 4, api.ErrForm)
		readRefused(t, strings.Replace(text, "age 30\n", "", 1), 0, api.ErrLack)
		readRefused(t, strings.Replace(text, "device pump\n", "# none\n", 1), 0, api.ErrLack)
		readRefused(t, text+strings.Repeat("field rate 2 be 2 1/10 0/1 mlh\n", 7), 19, api.ErrSize)
		readRefused(t, strings.Replace(text, "1/10", "2/20", 1), 6, api.ErrForm)
	}
	for _, text := range []string{"", "\n", "# nothing\n", "   \n \n"} {
		readRefused(t, text, 0, api.ErrLack)
	}
}

// Promise 10.1: Check's error, at 0, the first one of each set of things that are wrong.
func TestReadUnsound(t *testing.T) {
	wrongs := []struct {
		old, new string
		fault    api.Errno
	}{
		{"sum crc16", "sum md5", api.ErrName},
		{"1b 20", "02 20", api.ErrClash},
		{"timeout 3", "timeout 10", api.ErrRange},
		{"be 2", "float 2", api.ErrForm},
		{"rate 2", "rate 5", api.ErrRange},
		{"mlh", "stone", api.ErrName},
		{"temp", "rate", api.ErrTwice},
	}
	for set := 1; set < 1<<len(wrongs); set++ {
		text, want := pumpText, api.OK
		for i := len(wrongs) - 1; i >= 0; i-- {
			if set>>i&1 == 1 {
				text = strings.Replace(text, wrongs[i].old, wrongs[i].new, 1)
				want = wrongs[i].fault
			}
		}
		readRefused(t, text, 0, want)
		readRefused(t, "\n\n# it\n"+text, 0, want)
		devicesRefused(t, "\n\n# it\n"+text, 4, want)
		devicesRefused(t, leastText+text+mostText, 11, want)
	}
}

// Promise 10.2: devices' texts, one behind the other.
func TestAll(t *testing.T) {
	allIs(t, nil, "", api.OK)
	allIs(t, []api.Device{}, "", api.OK)
	allIs(t, []api.Device{pump()}, pumpText, api.OK)
	allIs(t, []api.Device{most(), pump(), least()}, mostText+pumpText+leastText, api.OK)
	allIs(t, []api.Device{least(), most(), pump()}, leastText+mostText+pumpText, api.OK)
	devicesAre(t, mostText+pumpText+leastText, most(), pump(), least())
}

// Promise 10.2: an earlier device's name, whatever else the two are, wherever they stand.
func TestAllTwice(t *testing.T) {
	for i := range 5 {
		for j := range i {
			l := []api.Device{named("a"), named("b"), named("c"), named("d"), named("e")}
			l[i].Name = l[j].Name
			allIs(t, l, "", api.ErrTwice)
			l[i] = least()
			l[j].Name = l[i].Name
			allIs(t, l[:i+1], "", api.ErrTwice)
			allIs(t, slices.Delete(slices.Clone(l), j, j+1), allOf(slices.Delete(slices.Clone(l), j, j+1)), wantTwice(slices.Delete(slices.Clone(l), j, j+1)))
		}
	}
	// Names that are like each other, or like names of fields, are others.
	l := []api.Device{named("pump"), named("pum"), named("pumps"), named("pump2"), named("rate"), named("crc16")}
	allIs(t, l, allOf(l), api.OK)
}

// allOf answers devices' texts by the model, or nothing, if two have one name.
func allOf(l []api.Device) string {
	var all string
	for _, d := range l {
		all += textOf(d)
	}
	if wantTwice(l) != api.OK {
		return ""
	}
	return all
}

// wantTwice answers ErrTwice, if two devices have one name.
func wantTwice(l []api.Device) api.Errno {
	for i := range l {
		for j := range i {
			if l[i].Name == l[j].Name {
				return api.ErrTwice
			}
		}
	}
	return api.OK
}

// filled answers devices without fields whose texts have just so many bytes together, a few thousands.
func filled(t *testing.T, bytes int) []api.Device {
	t.Helper()
	const shortest, longest = 4, api.MaxName
	bare := len(leastText) - 1
	n := (bytes + bare + longest - 1) / (bare + longest)
	rest := bytes - n*(bare+shortest)
	if n > 99 || rest < 0 {
		t.Fatalf("%d bytes can't be filled", bytes)
	}
	var l []api.Device
	for i := range n {
		more := min(rest, longest-shortest)
		rest -= more
		d := least()
		d.Name = fmt.Sprintf("dd%02d", i) + strings.Repeat("x", more)
		l = append(l, d)
	}
	if len(allOf(l)) != bytes {
		t.Fatalf("%d bytes, not %d", len(allOf(l)), bytes)
	}
	return l
}

// Promises 10.2, 10.3 and 10.4: texts of up to 4000 bytes together are shown and read, longer ones are refused.
func TestSize(t *testing.T) {
	for bytes := 3970; bytes <= 4030; bytes++ {
		l := filled(t, bytes)
		if bytes > 4000 {
			allIs(t, l, "", api.ErrSize)
			devicesRefused(t, allOf(l), 0, api.ErrSize)
			linesAre(t, rowsOf(allOf(l)), l...)
			continue
		}
		allIs(t, l, allOf(l), api.OK)
		devicesAre(t, allOf(l), l...)
	}
	l := append(filled(t, 4000-len(mostText)), most())
	allIs(t, l, allOf(l), api.OK)
	devicesAre(t, allOf(l), l...)
	l[0].Retries = 10
	allIs(t, l, "", api.ErrSize)
}

// Promise 10.2: the first device at which something is wrong tells it, of several things the first one.
func TestAllOrder(t *testing.T) {
	full := filled(t, 4000)
	wrong, again, more := named("Pump"), full[3], pump()
	clash := pump()
	clash.Mix = 0
	twiceWrong := full[3]
	twiceWrong.Mix = 0
	for _, c := range []struct {
		behind []api.Device
		want   api.Errno
	}{
		{[]api.Device{more}, api.ErrSize},
		{[]api.Device{again}, api.ErrTwice},
		{[]api.Device{wrong}, api.ErrForm},
		{[]api.Device{twiceWrong}, api.ErrClash},
		{[]api.Device{more, again}, api.ErrSize},
		{[]api.Device{more, wrong}, api.ErrSize},
		{[]api.Device{more, more}, api.ErrSize},
		{[]api.Device{again, more}, api.ErrTwice},
		{[]api.Device{again, wrong}, api.ErrTwice},
		{[]api.Device{wrong, more, again}, api.ErrForm},
		{[]api.Device{clash, wrong, more, again}, api.ErrClash},
		{[]api.Device{{}, more, again}, api.ErrForm},
	} {
		allIs(t, slices.Concat(full, c.behind), "", c.want)
	}
	// What stands behind the first wrong one isn't told, however many there are.
	many := slices.Repeat([]api.Device{more}, 1<<16)
	allIs(t, many, "", api.ErrTwice)
	for i := range many {
		many[i].Name = "n" + strconv.Itoa(i)
	}
	allIs(t, many, "", api.ErrSize)
	many[0].Sum = ""
	allIs(t, many, "", api.ErrName)
}

// Promise 10.3: nothing is no devices, and lines without a device are one that lacks something.
func TestNoDevice(t *testing.T) {
	for _, text := range []string{"", "\n", "# device pump\n", "  \n\n   "} {
		devicesAre(t, text)
	}
	linesAre(t, []lex.Row{})
	devicesRefused(t, "size 6", 1, api.ErrLack)
	devicesRefused(t, "\n\nsize 6\n"+pumpText, 3, api.ErrLack)
	devicesRefused(t, "\nsize 6\nage 1001\n"+pumpText, 3, api.ErrForm)
	// Lines ahead of the first device are a block of their own, however right they are.
	devicesRefused(t, "age 30\n"+strings.Replace(pumpText, "age 30\n", "", 1), 1, api.ErrLack)
	readIs(t, "age 30\n"+strings.Replace(pumpText, "age 30\n", "", 1), pump())
}

// Promise 10.3: each thing that may be wrong in a block, with its place, with right devices ahead and behind, or wrong ones behind.
func TestBlocks(t *testing.T) {
	cut := func(old, new string) string { return strings.Replace(pumpText, old, new, 1) }
	for _, c := range []struct {
		block string
		at    int
		fault api.Errno
	}{
		{cut("age 30", "speed 9"), 12, api.ErrForm},
		{cut("size 6", "size 0"), 4, api.ErrForm},
		{cut("device pump", "device Pump"), 1, api.ErrForm},
		{cut("device pump", "device"), 1, api.ErrForm},
		{cut("timeout 3", "poll 3"), 10, api.ErrTwice},
		{cut("timeout 3", strings.TrimSuffix(strings.Repeat("field rate 2 be 2 1/10 0/1 mlh\n", 7), "\n")), 16, api.ErrSize},
		{cut("age 30\n", ""), 1, api.ErrLack},
		{cut("start 02\n", "\n\n"), 1, api.ErrLack},
		{"device pump\n", 1, api.ErrLack},
		{cut("pump", "x\ndevice pump"), 1, api.ErrLack},
		{cut("crc16", "md5"), 1, api.ErrName},
		{cut("1b 20", "1b 00"), 1, api.ErrClash},
		{cut("age 30", "age 9"), 1, api.ErrRange},
		{cut("mlh", "stone"), 1, api.ErrName},
		{cut("temp", "rate"), 1, api.ErrTwice},
		{cut("pump", "first"), 1, api.ErrTwice},
		{cut("pump", "a"), 1, api.ErrTwice},
		// A line is told ahead of what is lacking, that ahead of what isn't sound, that ahead of a name that is there.
		{cut("device pump\nstart 02", "device a\nspeed 9"), 2, api.ErrForm},
		{cut("device pump\nstart 02", "device a\n"), 1, api.ErrLack},
		{cut("device pump\nstart 02", "device a\nstart 1b"), 1, api.ErrClash},
		{strings.Replace(cut("1b 20", "1b 00"), "age 30\n", "", 1), 1, api.ErrLack},
		{strings.Replace(cut("1b 20", "1b 00"), "age 30", "age", 1), 12, api.ErrForm},
	} {
		ahead := "# two\n" + strings.Replace(pumpText, "pump", "first", 1) + "\n" + leastText
		lines := strings.Count(ahead, "\n")
		for _, behind := range []string{"", mostText, leastText, "device x\n", "device b\nspeed 9\n", mostText + mostText} {
			devicesRefused(t, ahead+c.block+behind, lines+c.at, c.fault)
			linesRefused(t, rowsOf(ahead+c.block+behind), lines+c.at, c.fault)
			devicesRefused(t, ahead+"\n# it\n\n"+c.block+behind, lines+3+c.at, c.fault)
		}
	}
}

// Promise 10.3: a name that an earlier block's device has, wherever the two stand.
func TestBlocksTwice(t *testing.T) {
	for i := range 5 {
		for j := range i {
			var text string
			at := 0
			for n := range 5 {
				if n == i {
					at = strings.Count(text, "\n") + 1
					n = j
				}
				text += strings.Replace(leastText, "device a", "device a"+strconv.Itoa(n), 1)
			}
			devicesRefused(t, text, at, api.ErrTwice)
		}
	}
}

// Promise 10.3: chapter 7's error, ahead of all that lines tell.
func TestDevicesRefused(t *testing.T) {
	for _, text := range []string{pumpText, "device x\n" + pumpText, pumpText + pumpText, "speed 9\n"} {
		devicesRefused(t, text+strings.Repeat(" ", 4001-len(text)), 0, api.ErrSize)
		devicesRefused(t, text+strings.Repeat("\x00", 4001-len(text)), 0, api.ErrSize)
		devicesRefused(t, text+"# \x7f", strings.Count(text, "\n")+1, api.ErrForm)
		devicesRefused(t, "\r\n"+text, 1, api.ErrForm)
		devicesRefused(t, "\n\n\n \t\n"+text+"\x80", 4, api.ErrForm)
	}
}

// numbered answers rows with other lines' numbers.
func numbered(rows []lex.Row, numbers ...int) []lex.Row {
	rows = slices.Clone(rows)
	for i := range rows {
		rows[i].Line = numbers[min(i, len(numbers)-1)]
	}
	return rows
}

// Promise 10.3: lines' numbers are told as they are handed in; one that is 0 is none, and the block's first one stands for it.
func TestNumbersOfLines(t *testing.T) {
	wrong := rowsOf(strings.Replace(pumpText, "escape 1b 20", "escape 1b", 1))
	linesRefused(t, numbered(wrong, 7, 0, 9), 9, api.ErrForm)
	linesRefused(t, numbered(wrong, 7, 5, 0), 7, api.ErrForm)
	linesRefused(t, numbered(wrong, 0, 5, 0), 0, api.ErrForm)
	linesRefused(t, numbered(wrong, math.MinInt), math.MinInt, api.ErrForm)
	linesRefused(t, numbered(wrong, 1, math.MaxInt), math.MaxInt, api.ErrForm)
	linesRefused(t, numbered(wrong, 1, 2, -3), -3, api.ErrForm)
	clash := rowsOf(strings.Replace(pumpText, "escape 1b 20", "escape 1b 00", 1))
	linesRefused(t, numbered(clash, 7, 0, 9), 7, api.ErrClash)
	linesRefused(t, numbered(clash, 0, 5), 0, api.ErrClash)
	linesRefused(t, numbered(clash, -4, 5), -4, api.ErrClash)
	linesRefused(t, numbered(clash[:4], math.MaxInt, 5), math.MaxInt, api.ErrLack)
	twice := slices.Concat(numbered(rowsOf(pumpText), 3, 4), numbered(rowsOf(pumpText), -9, 4))
	linesRefused(t, twice, -9, api.ErrTwice)
	linesAre(t, numbered(rowsOf(pumpText+leastText), 0), pump(), least())
	linesAre(t, numbered(rowsOf(pumpText+leastText), math.MinInt), pump(), least())
}

// Promise 10.3: lines that no text has: without words, or with words of any bytes.
func TestStrangeLines(t *testing.T) {
	linesRefused(t, []lex.Row{{}}, 0, api.ErrForm)
	linesRefused(t, []lex.Row{{Line: 3}}, 3, api.ErrForm)
	linesRefused(t, append(rowsOf(pumpText), lex.Row{Line: 99, Words: []string{}}), 99, api.ErrForm)
	for _, word := range []string{"", " ", "\n", "device ", "device\n", "\xff", "Device", strings.Repeat("device", 5000)} {
		linesRefused(t, append(rowsOf(pumpText), lex.Row{Line: 44, Words: []string{word, "b"}}), 44, api.ErrForm)
		linesRefused(t, []lex.Row{{Line: 5, Words: []string{"device", word}}}, 5, api.ErrForm)
	}
}

// Promise 10.3: very many devices, of which only the last one has a name that is there.
func TestManyDevices(t *testing.T) {
	var rows []lex.Row
	block := rowsOf(leastText)
	const many = 60000
	for i := range many {
		rows = append(rows, lex.Row{Line: 10*i + 1, Words: []string{"device", "n" + strconv.Itoa(i)}})
		for j, row := range block[1:] {
			rows = append(rows, lex.Row{Line: 10*i + j + 2, Words: row.Words})
		}
	}
	l, at, e := Lines(rows)
	if len(l) != many || at != 0 || e != api.OK || l[many-1].Name != "n59999" {
		t.Fatalf("Lines = %d devices, %d, %d", len(l), at, e)
	}
	rows[10*(many-1)].Words = []string{"device", "n0"}
	linesRefused(t, rows, 10*(many-1)+1, api.ErrTwice)
}

// anyOf answers one of a list's things.
func anyOf[T any](r *rand.Rand, list ...T) T { return list[r.Intn(len(list))] }

// anyRatio answers a right fraction.
func anyRatio(r *rand.Rand) api.Ratio {
	for {
		n, d := r.Int63n(2000)-1000, r.Int63n(60)+1
		if r.Intn(4) == 0 {
			n, d = int64(r.Uint64()), r.Int63n(math.MaxInt64)+1
		}
		a, b := uint64(max(n, -n)), uint64(d)
		for b != 0 {
			a, b = b, a%b
		}
		if a == 1 {
			return api.Ratio{N: n, D: d}
		}
	}
}

// anyDevice answers a device by chance, sound more often than not.
func anyDevice(r *rand.Rand) api.Device {
	d := api.Device{
		Name: anyOf(r, "a", "b", "c", "d", "pump", "meter2", "abcdefghijkl"), Start: r.Intn(256), Escape: r.Intn(256), Mix: r.Intn(256), Size: r.Intn(25) + 8,
		Sum:     anyOf(r, strings.Fields("none sum lrc xor fletcher crc8 crc16 ccitt crc32")...),
		Request: make([]byte, r.Intn(16)+1), Poll: r.Intn(998) + 2, Retries: r.Intn(11),
	}
	r.Read(d.Request)
	d.Timeout = r.Intn(d.Poll-1) + 1
	d.Age = d.Poll + r.Intn(1001-d.Poll)
	for i := range r.Intn(9) {
		width := r.Intn(4) + 1
		d.Fields = append(d.Fields, api.Field{
			Name: anyOf(r, "x", "rate", "abcdefghijk") + strconv.Itoa(i), At: r.Intn(d.Size - width + 1), Kind: anyOf(r, strings.Fields("be le sbe sle bcd dec")...), Width: width,
			Scale: anyRatio(r), Offset: anyRatio(r), Unit: anyOf(r, strings.Fields("one pct kg g lb m cm mm in s min h k c f pa kpa mmhg cmho l ml lpm mlh bpm hz")...),
		})
	}
	switch faults := spoiled(); r.Intn(12) {
	case 0:
		if len(d.Fields) > 1 {
			faults[r.Intn(len(faults))].spoil(&d)
		}
	case 1:
		faults[r.Intn(6)].spoil(&d)
	}
	return d
}

// Promises 10.1 and 10.4: devices by chance, there and back.
func TestThereAndBack(t *testing.T) {
	r := rand.New(rand.NewSource(2))
	shown := 0
	for range 8000 {
		d := anyDevice(r)
		if fault := sound.Check(d); fault != api.OK {
			textRefused(t, d, fault)
			continue
		}
		thereAndBack(t, d, textOf(d))
		shown++
	}
	if shown < 4000 {
		t.Errorf("only %d devices were sound", shown)
	}
}

// modelAll tells what All must answer.
func modelAll(l []api.Device) (string, api.Errno) {
	for i, d := range l {
		if fault := sound.Check(d); fault != api.OK {
			return "", fault
		}
		if wantTwice(l[:i+1]) != api.OK {
			return "", api.ErrTwice
		}
		if len(allOf(l[:i+1])) > 4000 {
			return "", api.ErrSize
		}
	}
	return allOf(l), api.OK
}

// Promises 10.2 and 10.4: lists of devices by chance, against a model, and read again.
func TestAllModel(t *testing.T) {
	r := rand.New(rand.NewSource(3))
	count := map[api.Errno]int{}
	for range 4000 {
		var l []api.Device
		for i := range r.Intn(14) {
			d := anyDevice(r)
			if d.Name != "" && r.Intn(25) != 0 {
				d.Name = "n" + strconv.Itoa(i)
			}
			l = append(l, d)
		}
		text, want := modelAll(l)
		allIs(t, l, text, want)
		count[want]++
		if want == api.OK {
			devicesAre(t, text, l...)
		}
	}
	for _, e := range []api.Errno{api.OK, api.ErrForm, api.ErrName, api.ErrClash, api.ErrRange, api.ErrArg, api.ErrTwice, api.ErrSize} {
		if count[e] < 5 {
			t.Errorf("error %d: %d times", e, count[e])
		}
	}
}

// modelLines tells what Lines must answer of lines with numbers from 1 on, each block by itself.
func modelLines(rows []lex.Row) ([]api.Device, int, api.Errno) {
	var list []api.Device
	for from := 0; from < len(rows); {
		to := from + 1
		for to < len(rows) && rows[to].Words[0] != "device" {
			to++
		}
		d, at, fault := desc.Read(rows[from:to])
		if fault != api.OK && at != 0 {
			return nil, at, fault
		}
		if fault == api.OK {
			fault = sound.Check(d)
		}
		if fault == api.OK {
			fault = wantTwice(append(slices.Clone(list), d))
		}
		if fault != api.OK {
			return nil, rows[from].Line, fault
		}
		list = append(list, d)
		from = to
	}
	return list, 0, api.OK
}

// Promise 10.3: lines by chance, of several devices, with lines left out, said again, spoiled and exchanged, against a model.
func TestLinesModel(t *testing.T) {
	r := rand.New(rand.NewSource(4))
	count := map[api.Errno]int{}
	for range 8000 {
		var text string
		for i := range r.Intn(5) {
			d := anyDevice(r)
			if d.Name != "" && r.Intn(8) != 0 {
				d.Name = "n" + strconv.Itoa(i)
			}
			text += textOf(d)
		}
		rows := rowsOf(text)
		if len(rows) > 0 && r.Intn(2) == 0 {
			i, j := r.Intn(len(rows)), r.Intn(len(rows))
			switch r.Intn(4) {
			case 0:
				rows = slices.Delete(rows, i, i+1)
			case 1:
				rows = slices.Insert(rows, j, rows[i])
			case 2:
				rows[i].Words[r.Intn(len(rows[i].Words))] = anyOf(r, "9", "x", "ff", "device", "1001", "0")
			case 3:
				rows[i].Words, rows[j].Words = rows[j].Words, rows[i].Words
			}
		}
		list, at, want := modelLines(rows)
		count[want]++
		if want == api.OK {
			linesAre(t, rows, list...)
			continue
		}
		linesRefused(t, rows, at, want)
	}
	for _, e := range []api.Errno{api.OK, api.ErrForm, api.ErrTwice, api.ErrLack, api.ErrName, api.ErrClash, api.ErrRange} {
		if count[e] < 5 {
			t.Errorf("error %d: %d times", e, count[e])
		}
	}
}

// Promises 10.1 and 10.2: the devices that are handed in aren't changed, spare room included.
func TestDevicesUnchanged(t *testing.T) {
	l := make([]api.Device, 0, 6)
	for _, name := range []string{"a", "b", "c"} {
		d := named(name)
		d.Fields = append(make([]api.Field, 0, 5), d.Fields...)
		d.Request = append(make([]byte, 0, 9), d.Request...)
		d.Fields[:3][2].Name, d.Request[:3][2] = "spare", 77
		l = append(l, d)
	}
	l[:4][3] = named("spare")
	before := make([]api.Device, 0, 6)
	for _, d := range l[:6] {
		d.Fields, d.Request = slices.Clone(d.Fields[:cap(d.Fields)]), slices.Clone(d.Request[:cap(d.Request)])
		before = append(before, d)
	}
	if _, e := Text(l[0]); e != api.OK {
		t.Errorf("Text: %d", e)
	}
	allIs(t, l, allOf(l), api.OK)
	allIs(t, l[:4], allOf(l[:4]), api.OK)
	l = l[:6]
	for i := range l {
		l[i].Fields, l[i].Request = l[i].Fields[:cap(l[i].Fields)], l[i].Request[:cap(l[i].Request)]
	}
	if !sameList(l, before) {
		t.Errorf("what was handed in is changed: %v", l)
	}
}

// scribble writes over a device's lists, spare room included.
func scribble(d api.Device) {
	fields, request := d.Fields[:cap(d.Fields)], d.Request[:cap(d.Request)]
	for i := range fields {
		fields[i] = api.Field{Name: "y"}
	}
	for i := range request {
		request[i] = 99
	}
}

// Promise 10.3: the lines that are handed in aren't changed, spare room included, and devices share nothing with them.
func TestLinesUnchanged(t *testing.T) {
	text := pumpText + leastText + mostText
	words := append(make([]string, 0, 400), strings.Fields(text)...)
	rows := make([]lex.Row, 0, 60)
	from := 0
	for _, row := range rowsOf(text) {
		// Words of one line have those of the next line behind them, as spare room.
		rows = append(rows, lex.Row{Line: row.Line, Words: words[from : from+len(row.Words)]})
		from += len(row.Words)
	}
	rows[:len(rows)+1][len(rows)] = lex.Row{Line: 77, Words: words[:2]}
	words[:from+1][from] = "spare"
	wordsBefore, rowsBefore := slices.Clone(words[:400]), slices.Clone(rows[:60])
	linesAre(t, rows, pump(), least(), most())
	linesRefused(t, rows[1:], 2, api.ErrLack)
	l, _, _ := Lines(rows)
	for _, d := range l {
		scribble(d)
	}
	clear(l[:cap(l)])
	alike := func(a, b lex.Row) bool {
		return a.Line == b.Line && len(a.Words) == len(b.Words) && (len(a.Words) == 0 || &a.Words[0] == &b.Words[0])
	}
	if !slices.Equal(words[:400], wordsBefore) || !slices.EqualFunc(rows[:60], rowsBefore, alike) {
		t.Error("what was handed in is changed")
	}
}

// Promises 10.1 and 10.3: what is handed out is new each time, and no two lists of one answer share memory.
func TestNewMemory(t *testing.T) {
	first, _, _ := Read(pumpText)
	second, _, _ := Read(pumpText)
	scribble(first)
	if !same(second, pump()) {
		t.Errorf("a device that was read turns %v", second)
	}
	text := mostText + pumpText + strings.Replace(pumpText, "pump", "other", 1)
	want := []api.Device{most(), pump(), named("other")}
	kept, _, _ := Devices(text)
	for i := range want {
		l, _, _ := Devices(text)
		scribble(l[i])
		l[i] = want[i]
		if !sameList(l, want) || !sameList(kept, want) {
			t.Fatalf("what is handed out shares memory: %v", l)
		}
		clear(l[:cap(l)])
		if !sameList(kept, want) {
			t.Fatalf("what is handed out shares memory: %v", kept)
		}
	}
}

// Promises 10.1 to 10.3: what is answered hangs on what is asked alone, whatever was asked ahead.
func TestAgain(t *testing.T) {
	for range 50 {
		thereAndBack(t, pump(), pumpText)
		textRefused(t, api.Device{}, api.ErrForm)
		allIs(t, []api.Device{pump(), least()}, pumpText+leastText, api.OK)
		allIs(t, []api.Device{pump(), least(), pump()}, "", api.ErrTwice)
		devicesAre(t, pumpText+leastText, pump(), least())
		devicesRefused(t, pumpText+leastText+pumpText, 23, api.ErrTwice)
		devicesRefused(t, pumpText+leastText+"device x\nstart 02\n", 23, api.ErrLack)
	}
}
