package frame

import (
	"bytes"
	"math"
	"math/rand"
	"slices"
	"strconv"
	"strings"
	"testing"

	"lancet/api"
	"lancet/bits"
	"lancet/sound"
	"lancet/stuff"
	"lancet/sums"
)

// device answers a sound device without fields, with the marks that chapter 11 has as an example.
func device(size int, sum string) api.Device {
	return api.Device{Name: "pump", Start: 2, Escape: 27, Mix: 32, Size: size, Sum: sum, Request: []byte{5, 1}, Poll: 10, Timeout: 3, Retries: 2, Age: 30}
}

// marked answers a device with other marks.
func marked(d api.Device, start, escape, mix int) api.Device {
	d.Start, d.Escape, d.Mix = start, escape, mix
	return d
}

// field answers a field of a right scale, offset and unit.
func field(name string, at int, kind string, width int) api.Field {
	return api.Field{Name: name, At: at, Kind: kind, Width: width, Scale: api.Ratio{N: 1, D: 10}, Offset: api.Ratio{N: 0, D: 1}, Unit: "one"}
}

// with answers a device with such fields.
func with(d api.Device, fields ...api.Field) api.Device {
	d.Fields = fields
	return d
}

// two answers a device of two fields, which lie over one another at one byte.
func two() api.Device {
	return with(device(4, "xor"), field("a", 0, "be", 2), field("b", 1, "le", 2))
}

// wrongDevices: one that isn't sound for each reason, with its error.
func wrongDevices() []struct {
	name string
	d    api.Device
	want api.Errno
} {
	type row = struct {
		name string
		d    api.Device
		want api.Errno
	}
	var list []row
	add := func(name string, want api.Errno, change func(d *api.Device)) {
		d := two()
		change(&d)
		list = append(list, row{name, d, want})
	}
	list = append(list, row{"nothing at all", api.Device{}, api.ErrForm})
	add("no name", api.ErrForm, func(d *api.Device) { d.Name = "" })
	add("a name too long", api.ErrForm, func(d *api.Device) { d.Name = strings.Repeat("a", 13) })
	for _, n := range []int{-1, 256, 258, math.MinInt, math.MaxInt} {
		add("a start beyond a byte", api.ErrForm, func(d *api.Device) { d.Start = n })
		add("an escape beyond a byte", api.ErrForm, func(d *api.Device) { d.Escape = n })
		add("a mix beyond a byte", api.ErrForm, func(d *api.Device) { d.Mix = n })
	}
	for _, n := range []int{0, -1, 33, 256, math.MinInt, math.MaxInt, math.MaxInt - 1} {
		add("a size that may not be", api.ErrForm, func(d *api.Device) { d.Size = n })
	}
	for _, n := range []int{0, -1, 1001, math.MinInt, math.MaxInt} {
		add("a time that may not be", api.ErrForm, func(d *api.Device) { d.Poll = n })
		add("a time that may not be", api.ErrForm, func(d *api.Device) { d.Timeout = n })
		add("a time that may not be", api.ErrForm, func(d *api.Device) { d.Age = n })
	}
	add("too many retries", api.ErrForm, func(d *api.Device) { d.Retries = 11 })
	add("no request", api.ErrForm, func(d *api.Device) { d.Request = nil })
	add("a request too long", api.ErrForm, func(d *api.Device) { d.Request = make([]byte, 17) })
	add("too many fields", api.ErrForm, func(d *api.Device) { d.Fields = make([]api.Field, 9) })
	add("no sum", api.ErrName, func(d *api.Device) { d.Sum = "" })
	add("another sum", api.ErrName, func(d *api.Device) { d.Sum = "md5" })
	add("a start that is the escape", api.ErrClash, func(d *api.Device) { d.Escape = 2 })
	add("a mix of 0", api.ErrClash, func(d *api.Device) { d.Mix = 0 })
	add("an escape that becomes the start", api.ErrClash, func(d *api.Device) { d.Mix = 2 ^ 27 })
	add("a timeout of the poll", api.ErrRange, func(d *api.Device) { d.Timeout = 10 })
	add("an age below the poll", api.ErrRange, func(d *api.Device) { d.Age = 9 })
	add("a field without a name", api.ErrForm, func(d *api.Device) { d.Fields[1].Name = "" })
	add("a field of another kind", api.ErrForm, func(d *api.Device) { d.Fields[1].Kind = "float" })
	for _, n := range []int{0, -1, 5, math.MinInt, math.MaxInt} {
		add("a width that may not be", api.ErrForm, func(d *api.Device) { d.Fields[1].Width = n })
	}
	for _, n := range []int{-1, 3, 4, math.MinInt, math.MaxInt} {
		add("a field beside the payload", api.ErrRange, func(d *api.Device) { d.Fields[1].At = n })
	}
	add("a scale that isn't right", api.ErrArg, func(d *api.Device) { d.Fields[1].Scale.D = 0 })
	add("an offset that isn't right", api.ErrArg, func(d *api.Device) { d.Fields[1].Offset.D = 2 })
	add("another unit", api.ErrName, func(d *api.Device) { d.Fields[1].Unit = "stone" })
	add("a name that stands twice", api.ErrTwice, func(d *api.Device) { d.Fields[1].Name = "a" })
	return list
}

// sizes: how many bytes each ending has.
func sizes() map[string]int {
	return map[string]int{"none": 0, "sum": 1, "lrc": 1, "xor": 1, "fletcher": 2, "crc8": 1, "crc16": 2, "ccitt": 2, "crc32": 4}
}

// roomy puts memory behind a device's lists that a call may neither look at nor change.
func roomy(d api.Device) api.Device {
	d.Fields = withRoom(d.Fields, field("z", 7, "dec", 8))
	d.Request = withRoom(d.Request, 99)
	return d
}

// withRoom puts so many things behind a list that a call may neither look at nor change.
func withRoom[T any](list []T, behind T) []T {
	return append(slices.Clone(list), behind, behind, behind)[:len(list)]
}

// all answers a list, spare room included.
func all[T any](list []T) []T { return list[:cap(list)] }

// short cuts what a failure shows.
func short[T any](list []T) []T { return list[:min(len(list), 90)] }

// tell answers a device as a failure shows it.
func tell(d api.Device) string {
	b := []int{d.Start, d.Escape, d.Mix, d.Size}
	text := d.Name[:min(len(d.Name), 20)] + " (start, escape, mix, size"
	for _, n := range b {
		text += " " + strconv.Itoa(n)
	}
	for _, f := range d.Fields[:min(len(d.Fields), 8)] {
		text += ", " + f.Kind + strconv.Itoa(f.Width) + " at " + strconv.Itoa(f.At)
	}
	return text + ", " + d.Sum + ")"
}

// asked asks with a device and a list that have spare room, and holds both against what they were, spare room included; beside an error there are no bytes.
func asked[T comparable](t *testing.T, name string, call func(api.Device, []T) ([]byte, api.Errno), d api.Device, list []T, want []byte, wantErr api.Errno) {
	t.Helper()
	var behind T
	d, list = roomy(d), withRoom(list, behind)
	fields, request, kept := slices.Clone(all(d.Fields)), slices.Clone(all(d.Request)), slices.Clone(all(list))
	got, e := call(d, list)
	if e != wantErr || !bytes.Equal(got, want) {
		t.Fatalf("%s(%s, %v) = %x (%d bytes), %d, not %x (%d), %d", name, tell(d), short(list), short(got), len(got), e, short(want), len(want), wantErr)
	}
	if !slices.Equal(all(d.Fields), fields) || !bytes.Equal(all(d.Request), request) || !slices.Equal(all(list), kept) {
		t.Fatalf("%s(%s, %v) changes what is handed in", name, tell(d), short(list))
	}
}

func wantLaid(t *testing.T, d api.Device, payload, want []byte, e api.Errno) {
	t.Helper()
	asked(t, "Lay", Lay, d, payload, want, e)
}

func wantRead(t *testing.T, d api.Device, b, want []byte, e api.Errno) {
	t.Helper()
	asked(t, "Read", Read, d, b, want, e)
}

func wantPayload(t *testing.T, d api.Device, raws []int64, want []byte, e api.Errno) {
	t.Helper()
	asked(t, "Payload", Payload, d, raws, want, e)
}

// wantBoth holds a payload against its frame, there and back.
func wantBoth(t *testing.T, d api.Device, payload, frame []byte) {
	t.Helper()
	wantLaid(t, d, payload, frame, api.OK)
	wantRead(t, d, frame, payload, api.OK)
}

// laidModel replaces each mark behind the start by its two bytes, as texts.
func laidModel(d api.Device, payload []byte) ([]byte, api.Errno) {
	if e := sound.Check(d); e != api.OK {
		return nil, e
	}
	if len(payload) != d.Size {
		return nil, api.ErrSize
	}
	ending, _ := sums.Of(d.Sum, payload)
	start, escape := string([]byte{byte(d.Start)}), string([]byte{byte(d.Escape)})
	pairs := strings.NewReplacer(start, escape+string([]byte{byte(d.Start ^ d.Mix)}), escape, escape+string([]byte{byte(d.Escape ^ d.Mix)}))
	return []byte(start + pairs.Replace(string(payload)+string(ending))), api.OK
}

// readModel goes through the bytes one by one, and counts how many there are by a table of its own.
func readModel(d api.Device, b []byte) ([]byte, api.Errno) {
	if e := sound.Check(d); e != api.OK {
		return nil, e
	}
	if !bytes.HasPrefix(b, []byte{byte(d.Start)}) {
		return nil, api.ErrForm
	}
	if bytes.Count(b, []byte{byte(d.Start)}) > 1 {
		return nil, api.ErrClash
	}
	var plain []byte
	for i := 1; i < len(b); i++ {
		if b[i] != byte(d.Escape) {
			plain = append(plain, b[i])
			continue
		}
		i++
		if i == len(b) {
			return nil, api.ErrForm
		}
		plain = append(plain, b[i]^byte(d.Mix))
	}
	if len(plain) != d.Size+sizes()[d.Sum] {
		return nil, api.ErrSize
	}
	ending, _ := sums.Of(d.Sum, plain[:d.Size])
	if string(plain[d.Size:]) != string(ending) {
		return nil, api.ErrRange
	}
	return plain[:d.Size], api.OK
}

// payloadModel asks for each byte which field it is of: the last one that lies there.
func payloadModel(d api.Device, raws []int64) ([]byte, api.Errno) {
	if e := sound.Check(d); e != api.OK {
		return nil, e
	}
	if len(raws) != len(d.Fields) {
		return nil, api.ErrSize
	}
	var numbers [][]byte
	for i, f := range d.Fields {
		b, e := bits.Write(f.Kind, f.Width, raws[i])
		if e != api.OK {
			return nil, e
		}
		numbers = append(numbers, b)
	}
	payload := make([]byte, d.Size)
	for at := range payload {
		for i := len(d.Fields) - 1; i >= 0; i-- {
			if f := d.Fields[i]; f.At <= at && at < f.At+f.Width {
				payload[at] = numbers[i][at-f.At]
				break
			}
		}
	}
	return payload, api.OK
}

// chanceBytes: bytes of which many are marks, or become marks.
func chanceBytes(r *rand.Rand, d api.Device, n int) []byte {
	letters := []int{d.Start, d.Escape, d.Start ^ d.Mix, d.Escape ^ d.Mix, d.Mix, 0}
	b := make([]byte, n)
	for i := range b {
		b[i] = byte(r.Intn(256))
		if r.Intn(3) == 0 {
			b[i] = byte(letters[r.Intn(len(letters))])
		}
	}
	return b
}

// chanceDevice: a sound device of any marks, size, ending and fields.
func chanceDevice(r *rand.Rand) api.Device {
	kinds := []string{"none", "sum", "lrc", "xor", "fletcher", "crc8", "crc16", "ccitt", "crc32"}
	for {
		d := device(1+r.Intn(api.MaxSize), kinds[r.Intn(len(kinds))])
		if r.Intn(3) == 0 {
			d.Size = 1 + r.Intn(3)
		}
		d = marked(d, r.Intn(256), r.Intn(256), r.Intn(256))
		for i := range r.Intn(api.MaxFields + 1) {
			kind := []string{"be", "le", "sbe", "sle", "bcd", "dec"}[r.Intn(6)]
			width := 1 + r.Intn(min(4, d.Size))
			d.Fields = append(d.Fields, field("f"+strconv.Itoa(i), r.Intn(d.Size-width+1), kind, width))
		}
		if sound.Check(d) == api.OK {
			return d
		}
	}
}

// spoiltDevice: a device that may not be sound any more.
func spoiltDevice(r *rand.Rand) api.Device {
	d := chanceDevice(r)
	if r.Intn(8) == 0 {
		wrong := wrongDevices()
		return wrong[r.Intn(len(wrong))].d
	}
	return d
}

// chanceRaw: a number that the field may have, mostly; often one of its ends.
func chanceRaw(r *rand.Rand, f api.Field) int64 {
	least, greatest := bits.Ends(f.Kind, f.Width)
	switch r.Intn(40) {
	case 0:
		return least - 1
	case 1:
		return greatest + 1
	case 2:
		return math.MinInt64
	case 3, 4, 5:
		return least
	case 6, 7, 8:
		return greatest
	}
	return least + r.Int63n(greatest-least+1)
}

// enough holds that each error came often enough.
func enough(t *testing.T, times map[api.Errno]int, least int, wanted ...api.Errno) {
	t.Helper()
	for _, e := range wanted {
		if times[e] < least {
			t.Errorf("the error %d came %d times", e, times[e])
		}
	}
}

// Promise 12.1: a device's marks, as they are.
func TestMarks(t *testing.T) {
	if m := Marks(device(1, "none")); m != (stuff.Marks{Start: 2, Escape: 27, Mix: 32}) {
		t.Errorf("Marks = %v", m)
	}
	for n := range 256 {
		c := byte(n)
		d := marked(api.Device{}, n, 255-n, n^90)
		if m := Marks(d); m != (stuff.Marks{Start: c, Escape: ^c, Mix: c ^ 90}) {
			t.Errorf("Marks(%d, %d, %d) = %v", d.Start, d.Escape, d.Mix, m)
		}
	}
}

// Promise 12.1: of numbers beyond a byte, the lowest eight bits; each of them by itself, in a device that need not be sound.
func TestMarksBeyondAByte(t *testing.T) {
	for _, c := range []struct {
		n    int
		want byte
	}{
		{256, 0}, {257, 1}, {258, 2}, {511, 255}, {512, 0}, {0x1234, 0x34}, {0xffff, 255}, {0x10000, 0}, {1 << 32, 0}, {1<<32 + 27, 27}, {math.MaxInt32, 255}, {math.MaxInt, 255}, {math.MaxInt - 1, 254}, {math.MaxInt - 255, 0},
		{-1, 255}, {-2, 254}, {-27, 229}, {-128, 128}, {-255, 1}, {-256, 0}, {-257, 255}, {-1 << 32, 0}, {math.MinInt32, 0}, {math.MinInt, 0}, {math.MinInt + 1, 1}, {math.MinInt + 300, 44},
	} {
		for _, d := range []api.Device{{}, device(3, "crc16"), {Name: "Wrong", Size: -5, Sum: "md5"}} {
			d = marked(d, c.n, 27, 32)
			if m := Marks(d); m != (stuff.Marks{Start: c.want, Escape: 27, Mix: 32}) {
				t.Errorf("a start of %d: %v", c.n, m)
			}
			d = marked(d, 2, c.n, 32)
			if m := Marks(d); m != (stuff.Marks{Start: 2, Escape: c.want, Mix: 32}) {
				t.Errorf("an escape of %d: %v", c.n, m)
			}
			d = marked(d, 2, 27, c.n)
			if m := Marks(d); m != (stuff.Marks{Start: 2, Escape: 27, Mix: c.want}) {
				t.Errorf("a mix of %d: %v", c.n, m)
			}
		}
	}
	for n := -1000; n <= 1000; n++ {
		rest := byte((n%256 + 256) % 256)
		if m := Marks(marked(api.Device{}, n, n, n)); m != (stuff.Marks{Start: rest, Escape: rest, Mix: rest}) {
			t.Errorf("Marks of %d: %v", n, m)
		}
	}
}

// Promises 12.1, 12.2 and 12.4: the chapter's example.
func TestExample(t *testing.T) {
	wantBoth(t, device(1, "none"), []byte{7}, []byte{2, 7})
}

// Promises 12.1, 12.2 and 12.4: each kind of ending, written out; that of 9 digits is widely known.
func TestEachEnding(t *testing.T) {
	for _, c := range []struct{ sum, payload, frame string }{
		{"none", "123456789", "\x02123456789"},
		{"sum", "123456789", "\x02123456789\xdd"},
		{"lrc", "123456789", "\x02123456789\x23"},
		{"xor", "123456789", "\x02123456789\x31"},
		{"fletcher", "abcde", "\x02abcde\xc8\xf0"},
		{"crc8", "123456789", "\x02123456789\xf4"},
		{"crc16", "123456789", "\x02123456789\xbb\x3d"},
		{"ccitt", "123456789", "\x02123456789\x29\xb1"},
		{"crc32", "123456789", "\x02123456789\xcb\xf4\x39\x26"},
	} {
		wantBoth(t, device(len(c.payload), c.sum), []byte(c.payload), []byte(c.frame))
	}
	if len(sizes()) != len(sums.Names()) {
		t.Errorf("there are %d kinds of endings", len(sums.Names()))
	}
}

// Promises 12.1, 12.2 and 12.4: none, one and many starts and escapes, at each place.
func TestMarksInPayloads(t *testing.T) {
	for _, c := range []struct{ payload, frame string }{
		{"a", "\x02a"},
		{"\x00", "\x02\x00"},
		{"\xff", "\x02\xff"},
		{"\x02", "\x02\x1b\x22"},
		{"\x1b", "\x02\x1b\x3b"},
		{"\x20", "\x02\x20"},
		{"\x22", "\x02\x22"},
		{"\x3b", "\x02\x3b"},
		{"abc", "\x02abc"},
		{"\x02bc", "\x02\x1b\x22bc"},
		{"a\x02c", "\x02a\x1b\x22c"},
		{"ab\x02", "\x02ab\x1b\x22"},
		{"\x1bbc", "\x02\x1b\x3bbc"},
		{"a\x1bc", "\x02a\x1b\x3bc"},
		{"ab\x1b", "\x02ab\x1b\x3b"},
		{"\x02\x02\x02", "\x02\x1b\x22\x1b\x22\x1b\x22"},
		{"\x1b\x1b\x1b", "\x02\x1b\x3b\x1b\x3b\x1b\x3b"},
		{"\x02\x1b\x02", "\x02\x1b\x22\x1b\x3b\x1b\x22"},
		{"\x1b\x22\x02", "\x02\x1b\x3b\x22\x1b\x22"},
		{"\x22\x3b\x1b", "\x02\x22\x3b\x1b\x3b"},
	} {
		wantBoth(t, device(len(c.payload), "none"), []byte(c.payload), []byte(c.frame))
	}
	most := bytes.Repeat([]byte{2}, 32)
	wantBoth(t, device(32, "none"), most, []byte("\x02"+strings.Repeat("\x1b\x22", 32)))
	wantBoth(t, device(32, "sum"), most, []byte("\x02"+strings.Repeat("\x1b\x22", 32)+"\x40"))
}

// Promises 12.1, 12.2 and 12.4: endings that hold starts or escapes are stuffed as the payload is.
func TestMarksInEndings(t *testing.T) {
	for _, c := range []struct{ sum, payload, frame string }{
		{"sum", "\x02", "\x02\x1b\x22\x1b\x22"},
		{"sum", "\x01\x01", "\x02\x01\x01\x1b\x22"},
		{"sum", "\x1a\x01", "\x02\x1a\x01\x1b\x3b"},
		{"sum", "\xff\x03", "\x02\xff\x03\x1b\x22"},
		{"lrc", "\xfe", "\x02\xfe\x1b\x22"},
		{"lrc", "\xe5", "\x02\xe5\x1b\x3b"},
		{"xor", "\x03\x01", "\x02\x03\x01\x1b\x22"},
		{"xor", "\x1b\x00", "\x02\x1b\x3b\x00\x1b\x3b"},
		{"xor", "\x00\x02\x1b", "\x02\x00\x1b\x22\x1b\x3b\x19"},
		{"fletcher", "\x01\x01", "\x02\x01\x01\x03\x1b\x22"},
		{"fletcher", "\x02\x00", "\x02\x1b\x22\x00\x04\x1b\x22"},
		{"fletcher", "\x02", "\x02\x1b\x22\x1b\x22\x1b\x22"},
		{"fletcher", "\x1b", "\x02\x1b\x3b\x1b\x3b\x1b\x3b"},
		{"fletcher", "\x00\x1b", "\x02\x00\x1b\x3b\x1b\x3b\x1b\x3b"},
	} {
		wantBoth(t, device(len(c.payload), c.sum), []byte(c.payload), []byte(c.frame))
	}
}

// Promises 12.1, 12.2 and 12.4: all payloads of one byte, and many of two, with each ending; each byte of an ending is a mark at some of them.
func TestAllShortPayloads(t *testing.T) {
	for sum, size := range sizes() {
		stuffed := make([][2]int, size)
		for high := range 256 {
			for low := range 256 {
				payload := []byte{byte(high), byte(low)}
				if high == 0 {
					payload = payload[1:]
				}
				ending, _ := sums.Of(sum, payload)
				// Of two bytes those are left out that no byte needs to be escaped for, but for some.
				if high > 2 && !bytes.ContainsAny(slices.Concat(payload, ending), "\x02\x1b") {
					continue
				}
				d := device(len(payload), sum)
				want, _ := laidModel(d, payload)
				for i, c := range ending {
					if c == 2 {
						stuffed[i][0]++
					} else if c == 27 {
						stuffed[i][1]++
					}
				}
				frame, e := Lay(d, payload)
				if e != api.OK || !bytes.Equal(frame, want) {
					t.Fatalf("%s: Lay(%x) = %x, %d, not %x", sum, payload, frame, e, want)
				}
				back, e := Read(d, frame)
				if e != api.OK || !bytes.Equal(back, payload) {
					t.Fatalf("%s: Read(%x) = %x, %d, not %x", sum, frame, back, e, payload)
				}
			}
		}
		for i, n := range stuffed {
			if n[0] == 0 || n[1] == 0 {
				t.Errorf("%s: its byte %d was the start %d times, the escape %d times", sum, i, n[0], n[1])
			}
		}
	}
}

// Promises 12.1 and 12.2: other marks than the example's, at the ends of a byte too.
func TestOtherMarks(t *testing.T) {
	for _, c := range []struct {
		start, escape, mix int
		payload, frame     string
	}{
		{0, 255, 1, "\x00\xff\x01\xfe", "\x00\xff\x01\xff\xfe\x01\xfe"},
		{255, 0, 1, "\x00\xff\x01\xfe", "\xff\x00\x01\x00\xfe\x01\xfe"},
		{126, 125, 32, "\x7e\x7d\x5e\x5d", "\x7e\x7d\x5e\x7d\x5d\x5e\x5d"},
		{192, 219, 7, "\xc0\xdb\x07\x00", "\xc0\xdb\xc7\xdb\xdc\x07\x00"},
		{2, 27, 2, "\x02\x1b\x00\x19", "\x02\x1b\x00\x1b\x19\x00\x19"},
		{2, 27, 27, "\x02\x1b\x00\x19", "\x02\x1b\x19\x1b\x00\x00\x19"},
		{2, 27, 255, "\x02\x1b\xfd\xe4", "\x02\x1b\xfd\x1b\xe4\xfd\xe4"},
	} {
		wantBoth(t, marked(device(4, "none"), c.start, c.escape, c.mix), []byte(c.payload), []byte(c.frame))
	}
}

// Promises 12.1, 12.2 and 12.3: devices that aren't sound, with their error for each function, whatever else is wrong.
func TestWrongDevices(t *testing.T) {
	for _, c := range wrongDevices() {
		if e := sound.Check(c.d); e != c.want {
			t.Fatalf("%s: Check = %d", c.name, e)
		}
		long := make([]byte, 300)
		for _, payload := range [][]byte{nil, {}, {1}, {1, 2, 3}, {1, 2, 3, 4}, {1, 2, 3, 4, 5}, long} {
			wantLaid(t, c.d, payload, nil, c.want)
		}
		for _, b := range [][]byte{nil, {}, {1}, {2}, {2, 2}, {2, 27}, {2, 1}, {2, 0, 0, 0, 0, 0}, {2, 0, 0, 0, 0, 1}, {0, 0, 0, 0, 0, 0}, long} {
			wantRead(t, c.d, b, nil, c.want)
		}
		for _, raws := range [][]int64{nil, {}, {1}, {1, 2}, {-1, 2}, {1, 65536}, {1, 2, 3}, make([]int64, 9), make([]int64, 300)} {
			wantPayload(t, c.d, raws, nil, c.want)
		}
	}
}

// Promise 12.1: payloads shorter and longer than the size.
func TestLayOfAnotherLength(t *testing.T) {
	for sum := range sizes() {
		for size := 1; size <= api.MaxSize; size++ {
			d := device(size, sum)
			for n := range 80 {
				payload := bytes.Repeat([]byte{2}, n)
				if n != size {
					wantLaid(t, d, payload, nil, api.ErrSize)
					continue
				}
				want, _ := laidModel(d, payload)
				wantLaid(t, d, payload, want, api.OK)
			}
			wantLaid(t, d, nil, nil, api.ErrSize)
			wantLaid(t, d, make([]byte, size+256), nil, api.ErrSize)
			wantLaid(t, d, make([]byte, 65536+size), nil, api.ErrSize)
		}
	}
}

// Promise 12.2: bytes that don't begin with the start, whatever stands behind.
func TestReadWithoutTheStart(t *testing.T) {
	d := device(1, "none")
	wantRead(t, d, nil, nil, api.ErrForm)
	wantRead(t, d, []byte{}, nil, api.ErrForm)
	for n := range 256 {
		if n == 2 {
			continue
		}
		for _, rest := range []string{"", "\x07", "\x02\x07", "\x02", "\x1b", "\x02\x1b", "\x07\x07", "\x07\x02\x07"} {
			wantRead(t, d, append([]byte{byte(n)}, rest...), nil, api.ErrForm)
		}
	}
	// A start of 0 is one like any other.
	wantRead(t, marked(d, 0, 1, 2), nil, nil, api.ErrForm)
	wantRead(t, marked(d, 0, 1, 2), []byte{2, 7}, nil, api.ErrForm)
	wantRead(t, marked(d, 0, 1, 2), []byte{0, 7}, []byte{7}, api.OK)
}

// Promise 12.2: what is refused, and with which error; of several the one that is named first.
func TestReadRefuses(t *testing.T) {
	for _, c := range []struct {
		b    string
		want api.Errno
	}{
		{"\x02\x05\x07\x0c", api.OK},
		{"\x02\x1b\x25\x07\x0c", api.OK},
		// A start inside, ahead of an escape at the end, of other lengths and other endings.
		{"\x02\x02", api.ErrClash},
		{"\x02\x02\x05\x07\x0c", api.ErrClash},
		{"\x02\x05\x02\x07\x0c", api.ErrClash},
		{"\x02\x05\x07\x02", api.ErrClash},
		{"\x02\x05\x07\x0c\x02", api.ErrClash},
		{"\x02\x05\x07\x1b\x02", api.ErrClash},
		{"\x02\x05\x02\x07", api.ErrClash},
		{"\x02\x05\x07\x02\x1b", api.ErrClash},
		{"\x02\x05\x07\x0c\x02\x05\x07\x0c", api.ErrClash},
		{"\x02\x1b\x1b\x02", api.ErrClash},
		{"\x02\x00\x02\x02", api.ErrClash},
		// An escape at the end, ahead of other lengths and other endings.
		{"\x02\x1b", api.ErrForm},
		{"\x02\x05\x07\x1b", api.ErrForm},
		{"\x02\x05\x07\x0c\x1b", api.ErrForm},
		{"\x02\x05\x07\x0c\x1b\x1b\x1b", api.ErrForm},
		{"\x02\x05\x1b", api.ErrForm},
		{"\x02\x00\x00\x00\x00\x1b", api.ErrForm},
		// Too few and too many bytes, ahead of other endings.
		{"\x02", api.ErrSize},
		{"\x02\x05", api.ErrSize},
		{"\x02\x05\x07", api.ErrSize},
		{"\x02\x05\x07\x0c\x00", api.ErrSize},
		{"\x02\x05\x07\x0c\x0c", api.ErrSize},
		{"\x02\x05\x07\x0c\x1b\x22", api.ErrSize},
		{"\x02\x1b\x22\x07", api.ErrSize},
		{"\x02\x00\x00", api.ErrSize},
		{"\x02\x00\x00\x00\x00", api.ErrSize},
		// Another ending.
		{"\x02\x05\x07\x0d", api.ErrRange},
		{"\x02\x05\x07\x0b", api.ErrRange},
		{"\x02\x05\x07\x00", api.ErrRange},
		{"\x02\x05\x08\x0c", api.ErrRange},
		{"\x02\x0c\x07\x05", api.ErrRange},
		{"\x02\x05\x07\x1b\x0c", api.ErrRange},
		{"\x02\x1b\x05\x07\x0c", api.ErrRange},
	} {
		var want []byte
		if c.want == api.OK {
			want = []byte{5, 7}
		}
		wantRead(t, device(2, "sum"), []byte(c.b), want, c.want)
	}
}

// Promise 12.2: what need not be escaped is read where it is.
func TestReadOfWhatNeedNotBeEscaped(t *testing.T) {
	d := device(2, "none")
	wantRead(t, d, []byte{2, 27, 37, 27}, nil, api.ErrForm)
	wantRead(t, d, []byte{2, 27, 37, 27, 32}, []byte{5, 0}, api.OK)
	wantRead(t, d, []byte{2, 27, 27, 27, 27}, []byte{59, 59}, api.OK)
	wantRead(t, d, []byte{2, 27, 27, 5}, []byte{59, 5}, api.OK)
}

// Promise 12.2: each ending with each of its bytes being another one, and with the bytes in another order.
func TestReadOfAnotherEnding(t *testing.T) {
	payload := []byte("12\x0245\x1b788")
	for sum, size := range sizes() {
		d := device(len(payload), sum)
		ending, _ := sums.Of(sum, payload)
		lay := func(body []byte) []byte { return append([]byte{2}, stuff.Stuff(Marks(d), body)...) }
		wantRead(t, d, lay(slices.Concat(payload, ending)), payload, api.OK)
		for at := range size {
			for change := 1; change < 256; change++ {
				other := slices.Clone(ending)
				other[at] ^= byte(change)
				wantRead(t, d, lay(slices.Concat(payload, other)), nil, api.ErrRange)
			}
		}
		turned := slices.Clone(ending)
		slices.Reverse(turned)
		if !bytes.Equal(turned, ending) {
			wantRead(t, d, lay(slices.Concat(payload, turned)), nil, api.ErrRange)
		}
		for n := range 60 {
			if n != len(payload)+size {
				wantRead(t, d, lay(bytes.Repeat([]byte{2}, n)), nil, api.ErrSize)
			}
		}
		wantRead(t, d, lay(slices.Concat(payload, ending, []byte{0})), nil, api.ErrSize)
		wantRead(t, d, lay(slices.Concat(payload, ending, ending, []byte{0})), nil, api.ErrSize)
		wantRead(t, d, lay(slices.Concat(payload, ending)[:len(payload)+size-1]), nil, api.ErrSize)
	}
}

// Promise 12.2: without an ending no payload is wrong.
func TestReadWithoutAnEnding(t *testing.T) {
	for high := range 256 {
		for low := range 256 {
			payload := []byte{byte(high), byte(low)}
			frame := append([]byte{2}, stuff.Stuff(stuff.Marks{Start: 2, Escape: 27, Mix: 32}, payload)...)
			got, e := Read(device(2, "none"), frame)
			if e != api.OK || !bytes.Equal(got, payload) {
				t.Fatalf("Read(%x) = %x, %d", frame, got, e)
			}
		}
	}
}

// Promise 12.2: all short texts of bytes that mean something.
func TestReadOfAllShortTexts(t *testing.T) {
	letters := []byte{2, 27, 34, 59, 32, 0, 4}
	times := map[api.Errno]int{}
	for _, d := range []api.Device{device(1, "none"), device(2, "none"), device(1, "sum"), device(1, "xor"), device(2, "lrc"), device(1, "fletcher")} {
		for n := range 6 {
			count := 1
			for range n {
				count *= len(letters)
			}
			for number := range count {
				b := []byte{2}
				for range n {
					b = append(b, letters[number%len(letters)])
					number /= len(letters)
				}
				want, e := readModel(d, b)
				got, gotErr := Read(d, b)
				if gotErr != e || !bytes.Equal(got, want) {
					t.Fatalf("Read(%s, %x) = %x, %d, not %x, %d", tell(d), b, got, gotErr, want, e)
				}
				times[e]++
			}
		}
	}
	enough(t, times, 150, api.OK, api.ErrClash, api.ErrForm, api.ErrSize, api.ErrRange)
}

// Promise 12.3: too few and too many raws, ahead of any that can't be written.
func TestPayloadOfAnotherCount(t *testing.T) {
	for count := range api.MaxFields + 1 {
		d := device(32, "crc16")
		for i := range count {
			d.Fields = append(d.Fields, field("f"+strconv.Itoa(i), 4*i, "be", 4))
		}
		for n := range 20 {
			raws := make([]int64, n)
			if n == count {
				wantPayload(t, d, raws, make([]byte, 32), api.OK)
				continue
			}
			wantPayload(t, d, raws, nil, api.ErrSize)
			if n > 0 {
				raws[0] = -1
				wantPayload(t, d, raws, nil, api.ErrSize)
			}
		}
	}
	wantPayload(t, two(), nil, nil, api.ErrSize)
	wantPayload(t, two(), make([]int64, 100000), nil, api.ErrSize)
}

// Promise 12.3: a device without fields has a payload of 0s.
func TestPayloadWithoutFields(t *testing.T) {
	for size := 1; size <= api.MaxSize; size++ {
		wantPayload(t, device(size, "crc32"), nil, make([]byte, size), api.OK)
		wantPayload(t, device(size, "none"), []int64{}, make([]byte, size), api.OK)
		wantPayload(t, with(device(size, "none"), []api.Field{}...), nil, make([]byte, size), api.OK)
		wantPayload(t, device(size, "none"), []int64{0}, nil, api.ErrSize)
	}
}

// Promise 12.3: each kind of number, written out, at its place among 0s.
func TestPayloadOfEachKind(t *testing.T) {
	for _, c := range []struct {
		kind  string
		width int
		raw   int64
		want  string
	}{
		{"be", 1, 0, "\x00"}, {"be", 1, 255, "\xff"}, {"be", 2, 0x021b, "\x02\x1b"}, {"be", 3, 0x010203, "\x01\x02\x03"}, {"be", 4, 0xffffffff, "\xff\xff\xff\xff"},
		{"le", 1, 7, "\x07"}, {"le", 2, 0x021b, "\x1b\x02"}, {"le", 3, 0x010203, "\x03\x02\x01"}, {"le", 4, 0x01020304, "\x04\x03\x02\x01"},
		{"sbe", 1, -1, "\xff"}, {"sbe", 1, -128, "\x80"}, {"sbe", 2, -2, "\xff\xfe"}, {"sbe", 4, math.MinInt32, "\x80\x00\x00\x00"}, {"sbe", 2, 32767, "\x7f\xff"},
		{"sle", 2, -2, "\xfe\xff"}, {"sle", 3, -2, "\xfe\xff\xff"}, {"sle", 4, math.MaxInt32, "\xff\xff\xff\x7f"},
		{"bcd", 1, 99, "\x99"}, {"bcd", 2, 1234, "\x12\x34"}, {"bcd", 3, 7, "\x00\x00\x07"}, {"bcd", 4, 99999999, "\x99\x99\x99\x99"},
		{"dec", 1, 5, "5"}, {"dec", 2, -5, "-5"}, {"dec", 4, 42, "  42"}, {"dec", 4, -42, " -42"}, {"dec", 8, 99999999, "99999999"}, {"dec", 8, -9999999, "-9999999"}, {"dec", 8, 0, "       0"},
	} {
		for at := range 5 {
			for behind := range 3 {
				d := with(device(at+c.width+behind, "xor"), field("x", at, c.kind, c.width))
				want := make([]byte, d.Size)
				for i := range c.width {
					want[at+i] = c.want[i]
				}
				wantPayload(t, d, []int64{c.raw}, want, api.OK)
			}
		}
	}
}

// Promise 12.3: raws that can't be written: the ends of each kind and width, and what lies beyond them.
func TestPayloadAtTheEnds(t *testing.T) {
	for kind, most := range map[string]int{"be": 4, "le": 4, "sbe": 4, "sle": 4, "bcd": 4, "dec": 8} {
		for width := 1; width <= most; width++ {
			d := with(device(32, "none"), field("x", 32-width, kind, width))
			least, greatest := bits.Ends(kind, width)
			for _, raw := range []int64{least, greatest} {
				b, _ := bits.Write(kind, width, raw)
				wantPayload(t, d, []int64{raw}, append(make([]byte, 32-width), b...), api.OK)
			}
			for _, raw := range []int64{least - 1, greatest + 1, math.MinInt64, math.MaxInt64} {
				wantPayload(t, d, []int64{raw}, nil, api.ErrRange)
			}
		}
	}
}

// Promise 12.3: of several raws each one may be the one that can't be written, or some of them.
func TestPayloadOfSeveralWrongRaws(t *testing.T) {
	d := device(32, "none")
	for i := range 4 {
		d.Fields = append(d.Fields, field("f"+strconv.Itoa(i), 4*i, []string{"be", "sle", "bcd", "dec"}[i], 2))
	}
	for wrong := range 16 {
		raws := []int64{1, 2, 3, 4}
		for i := range raws {
			if wrong>>i&1 == 1 {
				raws[i] = 100000
			}
		}
		if wrong == 0 {
			wantPayload(t, d, raws, []byte("\x00\x01\x00\x00\x02\x00\x00\x00\x00\x03\x00\x00 4\x00\x00\x00\x00\x00\x00\x00\x00\x00\x00\x00\x00\x00\x00\x00\x00\x00\x00"), api.OK)
			continue
		}
		wantPayload(t, d, raws, nil, api.ErrRange)
	}
	// A field that another one lies wholly over is written all the same.
	over := with(device(2, "none"), field("a", 0, "be", 1), field("b", 0, "be", 2))
	wantPayload(t, over, []int64{256, 1}, nil, api.ErrRange)
	wantPayload(t, over, []int64{255, 1}, []byte{0, 1}, api.OK)
}

// Promise 12.3: fields that lie over one another: the later one stands, in the order of the fields, not of their places.
func TestPayloadOfFieldsOverOneAnother(t *testing.T) {
	a, b, c := field("a", 0, "be", 3), field("b", 1, "be", 2), field("c", 2, "le", 2)
	raws := map[string]int64{"a": 0x0a0b0c, "b": 0x1112, "c": 0x2122}
	for _, row := range []struct {
		fields []api.Field
		want   string
	}{
		{[]api.Field{a, b, c}, "\x0a\x11\x22\x21"},
		{[]api.Field{a, c, b}, "\x0a\x11\x12\x21"},
		{[]api.Field{b, a, c}, "\x0a\x0b\x22\x21"},
		{[]api.Field{b, c, a}, "\x0a\x0b\x0c\x21"},
		{[]api.Field{c, a, b}, "\x0a\x11\x12\x21"},
		{[]api.Field{c, b, a}, "\x0a\x0b\x0c\x21"},
		{[]api.Field{a, b}, "\x0a\x11\x12\x00"},
		{[]api.Field{b, a}, "\x0a\x0b\x0c\x00"},
		{[]api.Field{c}, "\x00\x00\x22\x21"},
	} {
		var list []int64
		for _, f := range row.fields {
			list = append(list, raws[f.Name])
		}
		wantPayload(t, with(device(4, "none"), row.fields...), list, []byte(row.want), api.OK)
	}
	// Eight fields at one place: 0s of a later one go over what was there too.
	d := device(4, "none")
	for i := range 8 {
		d.Fields = append(d.Fields, field("f"+strconv.Itoa(i), 0, "be", 4))
	}
	wantPayload(t, d, []int64{1, 2, 3, 4, 5, 6, 7, 0x08090a0b}, []byte{8, 9, 10, 11}, api.OK)
	wantPayload(t, d, []int64{1, 2, 3, 4, 5, 6, 7, 0}, make([]byte, 4), api.OK)
}

// Promise 12.3: any device and any raws.
func TestPayloadByChance(t *testing.T) {
	r := rand.New(rand.NewSource(123))
	times := map[api.Errno]int{}
	for range 20000 {
		d := spoiltDevice(r)
		var raws []int64
		for _, f := range d.Fields[:min(len(d.Fields), 20)] {
			if bits.Right(f.Kind, f.Width) {
				raws = append(raws, chanceRaw(r, f))
			}
		}
		if r.Intn(10) == 0 {
			raws = make([]int64, r.Intn(10))
		}
		want, e := payloadModel(d, raws)
		wantPayload(t, d, raws, want, e)
		times[e]++
	}
	enough(t, times, 30, api.OK, api.ErrForm, api.ErrName, api.ErrClash, api.ErrRange, api.ErrArg, api.ErrTwice, api.ErrSize)
}

// Promise 12.1: any device and any payload.
func TestLayByChance(t *testing.T) {
	r := rand.New(rand.NewSource(121))
	times := map[api.Errno]int{}
	for range 20000 {
		d := spoiltDevice(r)
		n := r.Intn(40)
		if r.Intn(4) > 0 && d.Size >= 0 && d.Size <= api.MaxSize {
			n = d.Size
		}
		payload := chanceBytes(r, d, n)
		want, e := laidModel(d, payload)
		wantLaid(t, d, payload, want, e)
		times[e]++
	}
	enough(t, times, 30, api.OK, api.ErrForm, api.ErrName, api.ErrClash, api.ErrRange, api.ErrArg, api.ErrTwice, api.ErrSize)
}

// Promise 12.2: any device, and frames of which something may be changed, put in or left out.
func TestReadByChance(t *testing.T) {
	r := rand.New(rand.NewSource(122))
	times := map[api.Errno]int{}
	for range 40000 {
		d := spoiltDevice(r)
		b, e := laidModel(d, chanceBytes(r, d, min(max(d.Size, 0), api.MaxSize)))
		if e != api.OK {
			b = chanceBytes(r, d, r.Intn(50))
		}
		for range r.Intn(3) {
			at := r.Intn(len(b) + 1)
			switch r.Intn(4) {
			case 0:
				b = slices.Insert(b, at, chanceBytes(r, d, 1)...)
			case 1:
				b = slices.Concat(b[:at], b[min(at+1, len(b)):])
			case 2:
				b = b[:at]
			default:
				b = slices.Concat(b[:at], chanceBytes(r, d, 1), b[min(at+1, len(b)):])
			}
		}
		want, e := readModel(d, b)
		wantRead(t, d, b, want, e)
		times[e]++
	}
	enough(t, times, 60, api.OK, api.ErrForm, api.ErrName, api.ErrClash, api.ErrRange, api.ErrArg, api.ErrTwice, api.ErrSize)
}

// Promise 12.4: what is laid is read as it was, with any sound device; no start stands inside.
func TestThereAndBackByChance(t *testing.T) {
	r := rand.New(rand.NewSource(124))
	for range 20000 {
		d := chanceDevice(r)
		payload := chanceBytes(r, d, d.Size)
		frame, e := Lay(d, payload)
		if e != api.OK || frame[0] != byte(d.Start) || bytes.Contains(frame[1:], frame[:1]) {
			t.Fatalf("Lay(%s, %x) = %x, %d", tell(d), payload, frame, e)
		}
		wantRead(t, d, frame, payload, api.OK)
	}
}

// Promises 12.3 and 12.4: raws of fields that lie beside one another are in the payload that is read back.
func TestRawsThereAndBack(t *testing.T) {
	r := rand.New(rand.NewSource(34))
	for range 5000 {
		d := chanceDevice(r)
		d.Size, d.Fields = 0, nil
		var raws []int64
		for i, kind := range []string{"be", "le", "sbe", "sle", "bcd", "dec"} {
			f := field("f"+strconv.Itoa(i), d.Size, kind, 1+r.Intn(4))
			least, greatest := bits.Ends(kind, f.Width)
			d.Size += f.Width + r.Intn(2)
			d.Fields, raws = append(d.Fields, f), append(raws, least+r.Int63n(greatest-least+1))
		}
		payload, _ := Payload(d, raws)
		frame, _ := Lay(d, payload)
		back, e := Read(d, frame)
		if e != api.OK || len(back) != d.Size {
			t.Fatalf("%s: Read(%x) = %x, %d", tell(d), frame, back, e)
		}
		for i, f := range d.Fields {
			if n, e := bits.Read(f.Kind, back[f.At:f.At+f.Width]); n != raws[i] || e != api.OK {
				t.Fatalf("%s: the field %d is %d, %d, not %d", tell(d), i, n, e, raws[i])
			}
		}
	}
}

// Promise 12.2: very many bytes.
func TestReadOfVeryManyBytes(t *testing.T) {
	d := device(3, "crc16")
	long := bytes.Repeat([]byte{27, 34}, 1<<20)
	long[0] = 2
	wantRead(t, d, long, nil, api.ErrSize)
	wantRead(t, d, append(long, 27), nil, api.ErrForm)
	wantRead(t, d, append(long, 2), nil, api.ErrClash)
	wantRead(t, d, long[1:], nil, api.ErrForm)
	wantLaid(t, d, long, nil, api.ErrSize)
}

// scribble overwrites a list, spare room included.
func scribble(b []byte) {
	for i := range all(b) {
		all(b)[i] = 0xee
	}
}

// Promises 12.1, 12.2 and 12.3: an answer is new memory, spare room included, and nothing that is handed in is kept.
func TestAnswersAreNew(t *testing.T) {
	for sum := range sizes() {
		d := with(device(4, sum), field("a", 0, "be", 2))
		payload := withRoom([]byte("1\x023\x1b"), 99)
		kept := slices.Clone(all(payload))
		frame, _ := Lay(d, payload)
		again, _ := Lay(d, payload)
		want := slices.Clone(frame)
		scribble(frame)
		if !bytes.Equal(all(payload), kept) || !bytes.Equal(again, want) {
			t.Errorf("%s: Lay shares its answer", sum)
		}
		scribble(payload)
		if !bytes.Equal(again, want) {
			t.Errorf("%s: Lay keeps what is handed in", sum)
		}
		frame = withRoom(want, 99)
		kept = slices.Clone(all(frame))
		back, _ := Read(d, frame)
		againBack, _ := Read(d, frame)
		scribble(back)
		if !bytes.Equal(all(frame), kept) || string(againBack) != "1\x023\x1b" {
			t.Errorf("%s: Read shares its answer", sum)
		}
		scribble(frame)
		if string(againBack) != "1\x023\x1b" {
			t.Errorf("%s: Read keeps what is handed in", sum)
		}
		raws := []int64{0x0102}
		first, _ := Payload(d, raws)
		second, _ := Payload(d, raws)
		scribble(first)
		raws[0] = 0
		if string(second) != "\x01\x02\x00\x00" {
			t.Errorf("%s: Payload shares its answer", sum)
		}
	}
}

// Promise 12.2: a payload has no spare room, so that what is added to it stands elsewhere.
func TestPayloadsHaveNoSpareRoom(t *testing.T) {
	for sum := range sizes() {
		d := device(2, sum)
		frame, _ := Lay(d, []byte{2, 27})
		if payload, e := Read(d, frame); e != api.OK || cap(payload) != 2 {
			t.Errorf("%s: a payload of %d bytes with room for %d", sum, len(payload), cap(payload))
		}
	}
}

// Promises 12.1, 12.2 and 12.3: an answer hangs on its arguments alone, even behind a refused call.
func TestAskedAgain(t *testing.T) {
	for range 3 {
		wantRead(t, device(1, "sum"), []byte{2, 7, 27}, nil, api.ErrForm)
		wantBoth(t, device(1, "none"), []byte{7}, []byte{2, 7})
		wantLaid(t, device(1, "none"), []byte{7, 8}, nil, api.ErrSize)
		wantBoth(t, device(1, "sum"), []byte{7}, []byte{2, 7, 7})
		wantPayload(t, two(), []int64{65536, 0}, nil, api.ErrRange)
		wantPayload(t, two(), []int64{0x0102, 0x0304}, []byte{1, 4, 3, 0}, api.OK)
		wantBoth(t, marked(device(1, "none"), 7, 8, 1), []byte{7}, []byte{7, 8, 6})
	}
}
