package sound

import (
	"fmt"
	"maps"
	"math"
	"math/big"
	"math/rand"
	"regexp"
	"slices"
	"strconv"
	"strings"
	"testing"

	"lancet/api"
)

// rate is a field that is right in each payload of four bytes or more.
func rate() api.Field {
	return api.Field{Name: "rate", At: 2, Kind: "be", Width: 2, Scale: api.Ratio{N: 1, D: 10}, Offset: api.Ratio{N: 0, D: 1}, Unit: "mlh"}
}

// pump is a sound device.
func pump() api.Device {
	temp := api.Field{Name: "temp", At: 0, Kind: "sle", Width: 2, Scale: api.Ratio{N: 1, D: 100}, Offset: api.Ratio{N: -5, D: 2}, Unit: "c"}
	return api.Device{
		Name: "pump", Start: 2, Escape: 27, Mix: 32, Size: 6, Sum: "crc16", Fields: []api.Field{rate(), temp},
		Request: []byte{5, 1}, Poll: 10, Timeout: 3, Retries: 2, Age: 30,
	}
}

// full is a sound device of eight fields, which lie over each other and to the payload's end.
func full() api.Device {
	d := pump()
	d.Size, d.Fields = 32, nil
	for i, kind := range []string{"be", "le", "sbe", "sle", "bcd", "dec", "dec", "be"} {
		f := api.Field{Name: "f" + strconv.Itoa(i), At: 4 * i, Kind: kind, Width: 4, Scale: api.Ratio{N: int64(i), D: 1}, Offset: api.Ratio{N: 1, D: int64(i + 1)}, Unit: unitNames()[i]}
		d.Fields = append(d.Fields, f)
	}
	d.Fields[5].Width, d.Fields[6].Width = 8, 8
	return d
}

// sumNames: the names of sumSizes, in an order of their own.
func sumNames() []string {
	return slices.Sorted(maps.Keys(sumSizes()))
}

// sumSizes: chapter 5's endings.
func sumSizes() map[string]int {
	return map[string]int{"none": 0, "sum": 1, "lrc": 1, "xor": 1, "fletcher": 2, "crc8": 1, "crc16": 2, "ccitt": 2, "crc32": 4}
}

// kindWidths: chapter 6's kinds, with the greatest width of each.
func kindWidths() map[string]int {
	return map[string]int{"be": 4, "le": 4, "sbe": 4, "sle": 4, "bcd": 4, "dec": 8}
}

// unitNames: chapter 3's units.
func unitNames() []string {
	return strings.Fields("one pct kg g lb m cm mm in s min h k c f pa kpa mmhg cmho l ml lpm mlh bpm hz")
}

// Words that are no names, and words that are, but name nothing.
var (
	noNames = []string{"", "A", "Pump", "1a", "9", "-a", "a-b", "a_b", "a.b", "a b", " a", "a ", "#a", "abcdefghijklm", "\u00e9", "\uff41", "a\xff", "a\x00", "a\n", strings.Repeat("a", 5000)}
	strange = []string{"x", "md5", "stone", "crc", "crc64", "sums", "nones", "bes", "sdec", "float", "device", "abcdefghijkl", "z9"}
	names   = []string{"a", "z", "a0", "rate2", "abcdefghijkl", "z23456789012", "device", "field", "be", "none"}
)

// ends: numbers at the ends of int, and around those that chapters name.
func ends() []int {
	list := []int{math.MinInt, math.MinInt + 1, math.MaxInt - 1, math.MaxInt, math.MinInt32, math.MaxInt32, math.MinInt64 >> 1, math.MaxInt64 >> 1}
	for n := -10; n <= 45; n++ {
		list = append(list, n)
	}
	for n := -9; n <= 9; n++ {
		list = append(list, math.MinInt+abs(n), math.MaxInt-abs(n), 256+n, 1000+n, 1<<32+n, -1<<32+n)
	}
	return list
}

func abs(n int) int { return max(n, -n) }

// wrongRatios: fractions that aren't right.
func wrongRatios() []api.Ratio {
	const most, least = math.MaxInt64, math.MinInt64
	return []api.Ratio{
		{}, {N: 1, D: 0}, {N: -1, D: 0}, {N: 0, D: 2}, {N: 0, D: -1}, {N: 0, D: most}, {N: 1, D: -1}, {N: -1, D: -1}, {N: 2, D: 2}, {N: 2, D: 4}, {N: -3, D: 6}, {N: 10, D: 10}, {N: 1, D: -2},
		{N: most, D: most}, {N: least, D: 2}, {N: least, D: least}, {N: 1, D: least}, {N: most, D: -1}, {N: most, D: 0}, {N: least, D: 0}, {N: 0, D: least},
	}
}

// rightRatios: fractions that are right.
func rightRatios() []api.Ratio {
	const most, least = math.MaxInt64, math.MinInt64
	return []api.Ratio{
		{N: 0, D: 1}, {N: 1, D: 1}, {N: -1, D: 1}, {N: 1, D: 10}, {N: -5, D: 2}, {N: 5, D: 9}, {N: 45967, D: 180},
		{N: most, D: 1}, {N: least, D: 1}, {N: 1, D: most}, {N: -1, D: most}, {N: least, D: most}, {N: most, D: most - 1},
	}
}

// fieldIs asks for Field's answer.
func fieldIs(t *testing.T, d api.Device, f api.Field, want api.Errno) {
	t.Helper()
	if e := Field(d, f); e != want {
		t.Fatalf("Field(a size of %d, %.300v) = %d; not %d", d.Size, f, e, want)
	}
}

// checkIs asks for Check's answer.
func checkIs(t *testing.T, d api.Device, want api.Errno) {
	t.Helper()
	if e := Check(d); e != want {
		// A device may have far too many fields to be shown.
		text := fmt.Sprintf("%+v", d)
		t.Fatalf("Check(%.600s) = %d; not %d", text, e, want)
	}
}

// Promise 9.2: the chapter's example, whatever else there is behind it.
func TestExample(t *testing.T) {
	for b := range 256 {
		for mix := range 256 {
			d := pump()
			d.Start, d.Escape, d.Mix = b, b, mix
			checkIs(t, d, api.ErrClash)
		}
	}
	d := pump()
	d.Escape = d.Start
	d.Timeout, d.Age, d.Fields[0].Name = 500, 1, "9"
	checkIs(t, d, api.ErrClash)
}

// Promises 9.1 and 9.2: devices that are sound, and each of their fields.
func TestSound(t *testing.T) {
	least := api.Device{Name: "a", Start: 0, Escape: 1, Mix: 2, Size: 1, Sum: "none", Request: []byte{0}, Poll: 2, Timeout: 1, Age: 2}
	most := api.Device{Name: "abcdefghijkl", Start: 255, Escape: 254, Mix: 255, Size: 32, Sum: "crc32", Request: make([]byte, 16), Poll: 1000, Timeout: 999, Retries: 10, Age: 1000}
	for _, d := range []api.Device{pump(), full(), least, most} {
		checkIs(t, d, api.OK)
		for _, f := range d.Fields {
			fieldIs(t, d, f, api.OK)
		}
	}
	checkIs(t, api.Device{}, api.ErrForm)
	fieldIs(t, api.Device{}, api.Field{}, api.ErrForm)
}

// Promise 9.1: a field's own name is one, or ErrForm; which one it is makes no difference.
func TestFieldNames(t *testing.T) {
	for _, name := range append(names, strange...) {
		f := rate()
		f.Name = name
		fieldIs(t, pump(), f, api.OK)
	}
	for _, name := range noNames {
		f := rate()
		f.Name = name
		fieldIs(t, pump(), f, api.ErrForm)
		d := pump()
		d.Fields[1] = f
		checkIs(t, d, api.ErrForm)
	}
}

// Promise 9.1: each kind of number with each width, and others with any.
func TestKinds(t *testing.T) {
	for kind, greatest := range kindWidths() {
		for _, width := range ends() {
			f := rate()
			f.At, f.Kind, f.Width = 0, kind, width
			d, want := full(), api.OK
			if width < 1 || width > greatest {
				want = api.ErrForm
			}
			fieldIs(t, d, f, want)
			d.Fields[7] = f
			checkIs(t, d, want)
		}
	}
	others := slices.Concat(noNames, strange, unitNames(), []string{"BE", "Be", "be ", " be", "be\x00", "bee", "b", "e", "sb", "bcds", "decs", "de", "sbele", "be le", "be,le", "bele"})
	for _, kind := range others {
		for _, width := range ends() {
			f := rate()
			f.At, f.Kind, f.Width = 0, kind, width
			fieldIs(t, full(), f, api.ErrForm)
		}
	}
}

// liesIn tells by exact numbers whether a field lies in a payload.
func liesIn(at, width, size int) bool {
	behind := new(big.Int).Add(big.NewInt(int64(at)), big.NewInt(int64(width)))
	return at >= 0 && behind.Cmp(big.NewInt(int64(size))) <= 0
}

// Promise 9.1: each kind, width and place in a payload of each size, and where they or the size are at the ends of int.
func TestPlaces(t *testing.T) {
	for kind, greatest := range kindWidths() {
		for width := 1; width <= greatest; width++ {
			for _, size := range ends() {
				for _, at := range append(ends(), size, size-1, size-width-1, size-width, size-width+1) {
					d, f := pump(), rate()
					d.Size, f.At, f.Kind, f.Width = size, at, kind, width
					want := api.OK
					if !liesIn(at, width, size) {
						want = api.ErrRange
					}
					if e := Field(d, f); e != want {
						t.Fatalf("Field(a size of %d, %v) = %d; not %d", size, f, e, want)
					}
				}
			}
		}
	}
}

// Promises 9.1 and 9.2: places written out: the last that there is for each width, and the first that there isn't.
func TestLastPlaces(t *testing.T) {
	for _, c := range []struct {
		size, at, width int
		want            api.Errno
	}{
		{1, 0, 1, api.OK}, {1, 1, 1, api.ErrRange}, {1, -1, 1, api.ErrRange}, {1, 0, 2, api.ErrRange}, {1, -1, 2, api.ErrRange},
		{8, 0, 8, api.OK}, {8, 1, 8, api.ErrRange}, {8, 1, 7, api.OK}, {8, 7, 1, api.OK}, {8, 8, 1, api.ErrRange}, {7, 0, 8, api.ErrRange},
		{32, 31, 1, api.OK}, {32, 32, 1, api.ErrRange}, {32, 24, 8, api.OK}, {32, 25, 8, api.ErrRange}, {32, -8, 8, api.ErrRange},
		{32, math.MaxInt, 8, api.ErrRange}, {32, math.MaxInt - 7, 8, api.ErrRange}, {32, math.MinInt, 8, api.ErrRange}, {32, math.MinInt + 31, 1, api.ErrRange},
	} {
		d, f := pump(), rate()
		f.Kind, f.At, f.Width = "dec", c.at, c.width
		d.Size, d.Fields = c.size, []api.Field{f}
		fieldIs(t, d, f, c.want)
		checkIs(t, d, c.want)
	}
	for _, size := range []int{0, -1, -32, math.MinInt, math.MinInt + 1, math.MinInt + 8} {
		for _, at := range []int{0, 1, -1, size, math.MaxInt, math.MinInt} {
			d, f := pump(), rate()
			d.Size, f.At = size, at
			fieldIs(t, d, f, api.ErrRange)
		}
	}
}

// Promise 9.1: scale and offset, each right or not.
func TestFractions(t *testing.T) {
	right, wrong := rightRatios(), wrongRatios()
	for i, a := range append(right, wrong...) {
		for j, b := range append(right, wrong...) {
			want := api.OK
			if i >= len(right) || j >= len(right) {
				want = api.ErrArg
			}
			d, f := pump(), rate()
			f.Scale, f.Offset = a, b
			fieldIs(t, d, f, want)
			d.Fields[0] = f
			checkIs(t, d, want)
		}
	}
}

// Promise 9.1: each unit, and ErrName of all other texts, names or not.
func TestUnits(t *testing.T) {
	for _, name := range unitNames() {
		f := rate()
		f.Unit = name
		fieldIs(t, pump(), f, api.OK)
		d := pump()
		d.Fields[0] = f
		checkIs(t, d, api.OK)
	}
	for _, name := range slices.Concat(noNames, strange, []string{"One", "KG", "kg ", " kg", "kgs", "k g", "", "mlhh", "ml h", "\u212a", "be", "dec", "fletcher"}) {
		f := rate()
		f.Unit = name
		fieldIs(t, pump(), f, api.ErrName)
		d := pump()
		d.Fields[1] = f
		d.Fields[1].Name = "other"
		checkIs(t, d, api.ErrName)
	}
}

// fieldFaults: what may be wrong in a field, in the order in which it is told.
func fieldFaults() []struct {
	spoil func(f *api.Field)
	fault api.Errno
} {
	return []struct {
		spoil func(f *api.Field)
		fault api.Errno
	}{
		{func(f *api.Field) { f.Name = "9" }, api.ErrForm},
		{func(f *api.Field) { f.Kind = "float" }, api.ErrForm},
		{func(f *api.Field) { f.Width = 0 }, api.ErrForm},
		{func(f *api.Field) { f.At = 32 }, api.ErrRange},
		{func(f *api.Field) { f.Scale.D = 0 }, api.ErrArg},
		{func(f *api.Field) { f.Offset = api.Ratio{N: 2, D: 4} }, api.ErrArg},
		{func(f *api.Field) { f.Unit = "stone" }, api.ErrName},
	}
}

// Promise 9.1: of each set of things that are wrong, the first one is told, alone and in a device.
func TestFieldOrder(t *testing.T) {
	faults := fieldFaults()
	for set := range 1 << len(faults) {
		f, want := rate(), api.OK
		for i := len(faults) - 1; i >= 0; i-- {
			if set>>i&1 == 1 {
				faults[i].spoil(&f)
				want = faults[i].fault
			}
		}
		d := pump()
		fieldIs(t, d, f, want)
		d.Fields[0] = f
		checkIs(t, d, want)
	}
}

// Promise 9.1: a field is asked by itself: nothing of the device counts but its size.
func TestFieldAlone(t *testing.T) {
	for _, f := range []api.Field{rate(), full().Fields[2]} {
		fieldIs(t, full(), f, api.OK)
		fieldIs(t, api.Device{Size: 12}, f, api.OK)
		fieldIs(t, api.Device{Size: 11, Name: "9", Start: -1, Sum: "md5", Fields: []api.Field{f, {}, f}, Poll: -4}, f, map[int]api.Errno{2: api.OK, 8: api.ErrRange}[f.At])
	}
}

// Promise 9.2: the device's own name is one, or ErrForm.
func TestDeviceNames(t *testing.T) {
	for _, name := range append(names, strange...) {
		d := pump()
		d.Name = name
		checkIs(t, d, api.OK)
	}
	for _, name := range noNames {
		d := pump()
		d.Name = name
		checkIs(t, d, api.ErrForm)
	}
}

// deviceNumbers: a device's numbers by their words, with the ends that chapter 8 names.
func deviceNumbers() map[string]struct {
	of          func(d *api.Device) *int
	least, most int
} {
	type number = struct {
		of          func(d *api.Device) *int
		least, most int
	}
	return map[string]number{
		"start":   {func(d *api.Device) *int { return &d.Start }, 0, 255},
		"escape":  {func(d *api.Device) *int { return &d.Escape }, 0, 255},
		"mix":     {func(d *api.Device) *int { return &d.Mix }, 0, 255},
		"size":    {func(d *api.Device) *int { return &d.Size }, 1, 32},
		"poll":    {func(d *api.Device) *int { return &d.Poll }, 1, 1000},
		"timeout": {func(d *api.Device) *int { return &d.Timeout }, 1, 1000},
		"retries": {func(d *api.Device) *int { return &d.Retries }, 0, 10},
		"age":     {func(d *api.Device) *int { return &d.Age }, 1, 1000},
	}
}

// Promise 9.2: each number, from its least to its greatest and beyond: ErrForm only beyond, whatever else is then wrong.
func TestNumbers(t *testing.T) {
	for word, n := range deviceNumbers() {
		list := ends()
		for i := n.least - 2; i <= n.most+2; i++ {
			list = append(list, i)
		}
		for _, value := range list {
			d := pump()
			d.Fields = nil
			*n.of(&d) = value
			inside := n.least <= value && value <= n.most
			if e := Check(d); (e != api.ErrForm) != inside {
				t.Errorf("Check, %s %d: %d", word, value, e)
			}
			d.Sum = "md5"
			if e := Check(d); (e == api.ErrName) != inside || (e == api.ErrForm) == inside {
				t.Errorf("Check, %s %d and a wrong sum: %d", word, value, e)
			}
		}
	}
}

// Promise 9.2: a request of each length, with any bytes.
func TestRequests(t *testing.T) {
	for _, n := range []int{0, 1, 2, 3, 4, 5, 6, 7, 8, 9, 10, 11, 12, 13, 14, 15, 16, 17, 18, 255, 256, 257, 272, 1 << 20} {
		for _, b := range []byte{0, 2, 27, 255} {
			d := pump()
			d.Request = slices.Repeat([]byte{b}, n)
			want := api.OK
			if n < 1 || n > 16 {
				want = api.ErrForm
			}
			checkIs(t, d, want)
		}
	}
	d := pump()
	d.Request = nil
	checkIs(t, d, api.ErrForm)
}

// Promise 9.2: no field, and up to eight of them; ErrForm of more, whatever they are.
func TestHowManyFields(t *testing.T) {
	for n := range 20 {
		d := pump()
		d.Fields = []api.Field{}
		for i := range n {
			f := rate()
			f.Name += strconv.Itoa(i)
			d.Fields = append(d.Fields, f)
		}
		want := api.OK
		if n > 8 {
			want = api.ErrForm
		}
		checkIs(t, d, want)
	}
	d := full()
	for _, ninth := range []api.Field{{}, d.Fields[0], {Name: "f9", At: 99}} {
		d.Fields = append(full().Fields, ninth)
		checkIs(t, d, api.ErrForm)
	}
	for _, n := range []int{256, 264, 1 << 16, 1 << 20} {
		d.Fields = make([]api.Field, n)
		checkIs(t, d, api.ErrForm)
		d.Sum, d.Escape, d.Timeout = "md5", d.Start, d.Poll
		checkIs(t, d, api.ErrForm)
	}
	d = pump()
	d.Fields = nil
	checkIs(t, d, api.OK)
}

// Promise 9.2: each sum, and ErrName of all other texts, names or not.
func TestSums(t *testing.T) {
	for name := range sumSizes() {
		d := pump()
		d.Sum = name
		checkIs(t, d, api.OK)
	}
	for _, name := range slices.Concat(noNames, strange, []string{"None", "crc16 ", " crc16", "CRC16", "crc16, ccitt", "be", "kg", "nonesuch"}) {
		d := pump()
		d.Sum = name
		checkIs(t, d, api.ErrName)
	}
}

// clashes tells whether start, escape and mix aren't as they must be: of a frame's bytes only the first one may be the start.
func clashes(start, escape, mix int) bool {
	stuffed := []int{escape, start ^ mix, escape, escape ^ mix}
	return slices.Contains(stuffed, start)
}

// Promise 9.2: each escape with each mix, for some starts.
func TestClash(t *testing.T) {
	for _, start := range []int{0, 1, 2, 27, 126, 127, 128, 254, 255} {
		for escape := range 256 {
			for mix := range 256 {
				d := pump()
				d.Start, d.Escape, d.Mix = start, escape, mix
				want := api.OK
				if clashes(start, escape, mix) {
					want = api.ErrClash
				}
				checkIs(t, d, want)
			}
		}
	}
}

// Promise 9.2: marks written out.
func TestMarks(t *testing.T) {
	for _, c := range []struct {
		start, escape, mix int
		want               api.Errno
	}{
		{2, 27, 32, api.OK}, {126, 125, 32, api.OK}, {0, 1, 2, api.OK}, {0, 255, 1, api.OK}, {255, 0, 1, api.OK},
		{2, 2, 32, api.ErrClash}, {0, 0, 1, api.ErrClash}, {2, 2, 0, api.ErrClash},
		{2, 27, 0, api.ErrClash}, {0, 255, 0, api.ErrClash},
		{2, 27, 25, api.ErrClash}, {0, 255, 255, api.ErrClash}, {255, 0, 255, api.ErrClash}, {126, 125, 3, api.ErrClash},
		// The mix alone may be the start or the escape.
		{2, 27, 2, api.OK}, {2, 27, 27, api.OK}, {0, 27, 27, api.ErrClash}, {2, 0, 2, api.ErrClash},
	} {
		d := pump()
		d.Start, d.Escape, d.Mix = c.start, c.escape, c.mix
		checkIs(t, d, c.want)
	}
}

// Promise 9.2: the timeout is less than the poll, and the age no less than the poll.
func TestTimes(t *testing.T) {
	list := []int{1, 2, 3, 4, 5, 6, 7, 499, 500, 501, 998, 999, 1000}
	for _, poll := range list {
		for _, timeout := range list {
			for _, age := range list {
				d := pump()
				d.Poll, d.Timeout, d.Age = poll, timeout, age
				want := api.OK
				if timeout >= poll || age < poll {
					want = api.ErrRange
				}
				checkIs(t, d, want)
			}
		}
	}
}

// Promise 9.2: a name that an earlier field has: ErrTwice, whatever else the two are, wherever they stand.
func TestTwice(t *testing.T) {
	for i := range 8 {
		for j := range i {
			d := full()
			d.Fields[i].Name = d.Fields[j].Name
			checkIs(t, d, api.ErrTwice)
			d.Fields[i] = d.Fields[j]
			checkIs(t, d, api.ErrTwice)
			// Names that are nearly alike are two.
			d.Fields[i].Name += "0"
			checkIs(t, d, api.OK)
			fieldIs(t, d, d.Fields[i], api.OK)
		}
	}
	// All but the names may be alike, and a field may have the device's name.
	d := pump()
	d.Fields[1] = d.Fields[0]
	d.Fields[1].Name = "pump"
	checkIs(t, d, api.OK)
}

// Promise 9.2: of the first field in which something is wrong that is told: its error ahead of ErrTwice, and nothing of the fields behind it.
func TestFirstField(t *testing.T) {
	faults := fieldFaults()
	for i := range 8 {
		for _, a := range faults {
			d := full()
			a.spoil(&d.Fields[i])
			checkIs(t, d, a.fault)
			for j := range 8 {
				for _, b := range faults {
					both := d
					both.Fields = slices.Clone(d.Fields)
					b.spoil(&both.Fields[j])
					switch {
					case j < i:
						checkIs(t, both, b.fault)
					case j > i:
						checkIs(t, both, a.fault)
					}
				}
			}
		}
	}
}

// Promise 9.2: a name of an earlier field beside fields that aren't right.
func TestTwiceOrWrong(t *testing.T) {
	wrong, other := rate(), rate()
	wrong.Unit = "stone"
	other.Name = "other"
	for _, c := range []struct {
		fields []api.Field
		want   api.Errno
	}{
		{[]api.Field{rate(), wrong}, api.ErrName},
		{[]api.Field{wrong, rate()}, api.ErrName},
		{[]api.Field{wrong, wrong}, api.ErrName},
		{[]api.Field{rate(), rate(), wrong}, api.ErrTwice},
		{[]api.Field{rate(), other, other, wrong}, api.ErrTwice},
		{[]api.Field{rate(), other, wrong, other}, api.ErrName},
		{[]api.Field{rate(), other, rate()}, api.ErrTwice},
		{[]api.Field{other, other, rate(), rate()}, api.ErrTwice},
	} {
		d := pump()
		d.Fields = c.fields
		checkIs(t, d, c.want)
	}
}

// deviceFaults: what may be wrong in a device, in the order in which it is told.
func deviceFaults() []struct {
	spoil func(d *api.Device)
	fault api.Errno
} {
	return []struct {
		spoil func(d *api.Device)
		fault api.Errno
	}{
		{func(d *api.Device) { d.Name = "9" }, api.ErrForm},
		{func(d *api.Device) { d.Mix = 256 }, api.ErrForm},
		{func(d *api.Device) { d.Retries = 11 }, api.ErrForm},
		{func(d *api.Device) { d.Request = nil }, api.ErrForm},
		{func(d *api.Device) { d.Sum = "md5" }, api.ErrName},
		{func(d *api.Device) { d.Escape = d.Start }, api.ErrClash},
		{func(d *api.Device) { d.Timeout = d.Poll }, api.ErrRange},
		{func(d *api.Device) { d.Age = d.Poll - 1 }, api.ErrRange},
		{func(d *api.Device) { d.Fields[0].Scale.D = 0 }, api.ErrArg},
		{func(d *api.Device) { d.Fields[1].Name = d.Fields[0].Name }, api.ErrTwice},
	}
}

// Promise 9.2: of each set of things that are wrong, the first one is told.
func TestDeviceOrder(t *testing.T) {
	faults := deviceFaults()
	for set := range 1 << len(faults) {
		d, want := pump(), api.OK
		for i := len(faults) - 1; i >= 0; i-- {
			if set>>i&1 == 1 {
				faults[i].spoil(&d)
				want = faults[i].fault
			}
		}
		checkIs(t, d, want)
	}
}

// Promise 9.2: the size and the sum's bytes together, whatever else the device is; 0 of a sum that isn't there.
func TestTotal(t *testing.T) {
	for name, bytes := range sumSizes() {
		for _, size := range append(ends(), 64, 100) {
			if size > math.MaxInt-4 {
				continue
			}
			whole := pump()
			whole.Sum, whole.Size = name, size
			for _, d := range []api.Device{whole, {Sum: name, Size: size}} {
				if n := Total(d); n != size+bytes {
					t.Errorf("Total(%d bytes, %s) = %d; not %d", size, name, n, size+bytes)
				}
			}
		}
	}
	for _, name := range slices.Concat(noNames, strange, []string{"None", "crc16 ", "CRC16", "be", "kg"}) {
		for _, size := range ends() {
			d := pump()
			d.Sum, d.Size = name, size
			if n := Total(d); n != 0 {
				t.Errorf("Total(%d bytes, %.30q) = %d", size, name, n)
			}
		}
	}
}

// Promise 9.2: totals written out.
func TestTotals(t *testing.T) {
	for _, c := range []struct {
		size int
		sum  string
		want int
	}{
		{4, "crc16", 6}, {1, "none", 1}, {1, "sum", 2}, {1, "lrc", 2}, {1, "xor", 2}, {1, "fletcher", 3}, {1, "crc8", 2}, {1, "ccitt", 3}, {1, "crc32", 5},
		{32, "crc32", 36}, {32, "none", 32}, {0, "none", 0}, {0, "crc32", 4}, {-4, "crc32", 0}, {32, "md5", 0}, {32, "", 0},
	} {
		if n := Total(api.Device{Size: c.size, Sum: c.sum}); n != c.want {
			t.Errorf("Total(%d bytes, %q) = %d; not %d", c.size, c.sum, n, c.want)
		}
	}
}

// without answers a device without the fields of a set of places.
func without(d api.Device, set int) api.Device {
	list := d.Fields
	d.Fields = nil
	for i, f := range list {
		if set>>i&1 == 0 {
			d.Fields = append(d.Fields, f)
		}
	}
	return d
}

// Promise 9.3: each set of fields left out, of devices that are sound, and of the chapter's example, which isn't.
func TestLeftOut(t *testing.T) {
	clash, wrong, twice := full(), full(), full()
	clash.Escape = clash.Start
	wrong.Fields[5].Unit = "stone"
	twice.Fields[6].Name = twice.Fields[3].Name
	for set := range 1 << 8 {
		checkIs(t, without(full(), set), api.OK)
		checkIs(t, without(pump(), set), api.OK)
		checkIs(t, without(clash, set), api.ErrClash)
		want := api.ErrName
		if set>>5&1 == 1 {
			want = api.OK
		}
		checkIs(t, without(wrong, set), want)
		want = api.ErrTwice
		if set>>3&1 == 1 || set>>6&1 == 1 {
			want = api.OK
		}
		checkIs(t, without(twice, set), want)
	}
}

// modelField: what Field is to answer.
func modelField(size int, f api.Field) api.Errno {
	greatest, known := kindWidths()[f.Kind]
	switch {
	case !modelName.MatchString(f.Name) || !known || f.Width < 1 || f.Width > greatest:
		return api.ErrForm
	case !liesIn(f.At, f.Width, size):
		return api.ErrRange
	case !modelRatio(f.Scale) || !modelRatio(f.Offset):
		return api.ErrArg
	case !slices.Contains(unitNames(), f.Unit):
		return api.ErrName
	}
	return api.OK
}

var modelName = regexp.MustCompile(`\A[a-z][a-z0-9]{0,11}\z`)

// modelRatio tells whether a fraction is right.
func modelRatio(a api.Ratio) bool {
	n, d := big.NewInt(a.N), big.NewInt(a.D)
	return a.D > 0 && new(big.Int).GCD(nil, nil, n.Abs(n), d).Cmp(big.NewInt(1)) == 0
}

// modelDevice: what Check is to answer.
func modelDevice(d api.Device) api.Errno {
	form := modelName.MatchString(d.Name) && len(d.Request) >= 1 && len(d.Request) <= 16 && len(d.Fields) <= 8
	for _, n := range deviceNumbers() {
		form = form && n.least <= *n.of(&d) && *n.of(&d) <= n.most
	}
	_, known := sumSizes()[d.Sum]
	switch {
	case !form:
		return api.ErrForm
	case !known:
		return api.ErrName
	case clashes(d.Start, d.Escape, d.Mix):
		return api.ErrClash
	case d.Timeout >= d.Poll || d.Age < d.Poll:
		return api.ErrRange
	}
	seen := map[string]int{}
	for i, f := range d.Fields {
		if fault := modelField(d.Size, f); fault != api.OK {
			return fault
		}
		if seen[f.Name] > 0 {
			return api.ErrTwice
		}
		seen[f.Name] = i + 1
	}
	return api.OK
}

// chanceField makes a field that is often right in a payload of a size.
func chanceField(r *rand.Rand, size int) api.Field {
	some := func(list ...string) string { return list[r.Intn(len(list))] }
	ratio := func() api.Ratio {
		if r.Intn(40) == 0 {
			return api.Ratio{N: int64(r.Intn(9) - 4), D: int64(r.Intn(9) - 2)}
		}
		return rightRatios()[r.Intn(len(rightRatios()))]
	}
	f := api.Field{
		Name: "f" + strconv.Itoa(r.Intn(25)), At: r.Intn(max(size, 1)), Kind: some("be", "le", "sbe", "sle", "bcd", "dec", "dec"), Width: 1 + r.Intn(4),
		Scale: ratio(), Offset: ratio(), Unit: some(unitNames()...),
	}
	f.At = max(0, min(f.At, size-f.Width))
	switch r.Intn(60) {
	case 0:
		f.Name = some(noNames...)
	case 1:
		f.Kind = some(strange...)
	case 2:
		f.Width = r.Intn(12) - 2
	case 3:
		f.At = ends()[r.Intn(len(ends()))]
	case 4:
		f.At += r.Intn(5)
	case 5:
		f.Unit = some(strange...)
	}
	return f
}

// chanceDevice makes a device that is often sound.
func chanceDevice(r *rand.Rand) api.Device {
	poll := 2 + r.Intn(999)
	d := api.Device{
		Name: names[r.Intn(len(names))], Start: r.Intn(256), Escape: r.Intn(256), Mix: r.Intn(256), Size: 1 + r.Intn(32), Sum: sumNames()[r.Intn(9)],
		Request: make([]byte, 1+r.Intn(16)), Poll: poll, Timeout: 1 + r.Intn(poll-1), Retries: r.Intn(11), Age: poll + r.Intn(1001-poll),
	}
	for range r.Intn(9) {
		d.Fields = append(d.Fields, chanceField(r, d.Size))
	}
	switch r.Intn(12) {
	case 0:
		d.Escape = []int{d.Start, d.Start ^ d.Mix}[r.Intn(2)]
	case 1:
		d.Poll, d.Timeout, d.Age = 1+r.Intn(6), 1+r.Intn(6), 1+r.Intn(6)
	case 2:
		d.Sum = strange[r.Intn(len(strange))]
	case 3:
		words := slices.Sorted(maps.Keys(deviceNumbers()))
		*deviceNumbers()[words[r.Intn(len(words))]].of(&d) = ends()[r.Intn(len(ends()))]
	}
	return d
}

// Promises 9.1, 9.2 and 9.3: devices by chance are as in the model, so are their fields, and sound ones stay so with any left out.
func TestModel(t *testing.T) {
	r := rand.New(rand.NewSource(9))
	told := map[api.Errno]int{}
	for range 20000 {
		d := chanceDevice(r)
		e, want := Check(d), modelDevice(d)
		told[e]++
		if e != want {
			t.Fatalf("Check(%v) = %d; not %d", d, e, want)
		}
		for _, f := range d.Fields {
			if e, want := Field(d, f), modelField(d.Size, f); e != want {
				t.Fatalf("Field(a size of %d, %v) = %d; not %d", d.Size, f, e, want)
			}
		}
		for set := range 1 << len(d.Fields) {
			if e == api.OK && r.Intn(8) == 0 && Check(without(d, set)) != api.OK {
				t.Fatalf("Check(%v), fields %b left out: %d", d, set, Check(without(d, set)))
			}
		}
	}
	for _, e := range []api.Errno{api.OK, api.ErrForm, api.ErrName, api.ErrClash, api.ErrRange, api.ErrArg, api.ErrTwice} {
		if told[e] < 100 {
			t.Errorf("only %d answers are %d", told[e], e)
		}
	}
}

// Promises 9.1 and 9.2: what is handed in isn't changed, and the room behind it isn't looked at.
func TestNothingChanged(t *testing.T) {
	d := full()
	d.Fields = append(slices.Grow(d.Fields, 4), api.Field{Name: "9"}, d.Fields[0])[:8]
	d.Request = append(make([]byte, 16, 40), 9, 9)[:16]
	fields, request := slices.Clone(d.Fields[:cap(d.Fields)]), slices.Clone(d.Request[:cap(d.Request)])
	for range 3 {
		checkIs(t, d, api.OK)
		for _, f := range d.Fields {
			fieldIs(t, d, f, api.OK)
		}
		if Total(d) != 34 {
			t.Errorf("Total = %d", Total(d))
		}
	}
	for _, fault := range deviceFaults()[:8] {
		bad := d
		fault.spoil(&bad)
		checkIs(t, bad, fault.fault)
	}
	if !slices.Equal(d.Fields[:cap(d.Fields)], fields) || !slices.Equal(d.Request[:cap(d.Request)], request) {
		t.Error("what was handed in is changed")
	}
}
