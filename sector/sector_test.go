package sector_test

import (
	"math"
	"math/rand/v2"
	"slices"
	"strings"
	"testing"

	"foghorn/api"
	"foghorn/sector"
)

// A seed that stays the same: a run that fails fails again.
func source() *rand.Rand {
	return rand.New(rand.NewPCG(3, 4))
}

func randomText(r *rand.Rand, n int) string {
	b := make([]byte, n)
	for i := range b {
		b[i] = byte(r.Uint32())
	}
	return string(b)
}

// full is a text of a sector's size, of that byte alone.
func full(b string) string {
	return strings.Repeat(b, 128)
}

// disk is one of n sectors, whether it may be or not, no two of them alike.
func disk(n int) api.Disk {
	r := source()
	d := api.Disk{}
	for range n {
		d.Sectors = append(d.Sectors, randomText(r, 128))
	}
	return d
}

// with is a disk that is like this one, but for one sector.
func with(d api.Disk, at int, text string) api.Disk {
	sectors := slices.Clone(d.Sectors)
	sectors[at] = text
	return api.Disk{Sectors: sectors}
}

func same(a, b api.Disk) bool {
	return slices.Equal(a.Sectors, b.Sectors)
}

// wrongDisks may not be, each for a reason of its own.
func wrongDisks() map[string]api.Disk {
	return map[string]api.Disk{
		"the zero value":          {},
		"an empty list":           {Sectors: []string{}},
		"1 sector":                disk(1),
		"9 sectors":               disk(9),
		"131 sectors":             disk(131),
		"1000 sectors":            disk(1000),
		"10 empty sectors":        {Sectors: make([]string, 10)},
		"the first of 127 bytes":  with(disk(10), 0, strings.Repeat("a", 127)),
		"the first of 129 bytes":  with(disk(10), 0, strings.Repeat("a", 129)),
		"the last of 127 bytes":   with(disk(10), 9, strings.Repeat("a", 127)),
		"the last of 129 bytes":   with(disk(10), 9, strings.Repeat("a", 129)),
		"the last, 130, is empty": with(disk(130), 129, ""),
		"one amid of 127 bytes":   with(disk(50), 20, strings.Repeat("a", 127)),
		"one of 128 runes":        with(disk(10), 4, strings.Repeat("\u00e4", 128)),
		"one short and one long":  with(with(disk(10), 4, strings.Repeat("a", 127)), 5, strings.Repeat("a", 129)),
	}
}

// P2.1: which disks may be.
func TestRight(t *testing.T) {
	for n := range 200 {
		if got, want := sector.Right(disk(n)), n >= 10 && n <= 130; got != want {
			t.Errorf("Right of %d sectors = %v, want %v", n, got, want)
		}
	}
	for name, d := range wrongDisks() {
		if sector.Right(d) {
			t.Errorf("Right of %s", name)
		}
	}
	for at := range 10 {
		for n := range 260 {
			if got, want := sector.Right(with(disk(10), at, strings.Repeat("a", n))), n == 128; got != want {
				t.Errorf("Right with %d bytes at %d = %v, want %v", n, at, got, want)
			}
		}
	}
}

// P2.1: a size counts bytes, not runes (R5).
func TestRightCountsBytes(t *testing.T) {
	if !sector.Right(with(disk(10), 3, strings.Repeat("\u00e4", 64))) {
		t.Error("64 runes of two bytes are 128 bytes")
	}
	if !sector.Right(with(disk(10), 3, full("\xff"))) {
		t.Error("a sector need not be UTF-8")
	}
}

// P2.1: new disks.
func TestNew(t *testing.T) {
	for n := 10; n <= 130; n++ {
		d, why := sector.New(n)
		if why != api.OK || len(d.Sectors) != n || !sector.Right(d) {
			t.Fatalf("New(%d): %d sectors, %d", n, len(d.Sectors), why)
		}
		for at, text := range d.Sectors {
			if text != full("\x00") {
				t.Errorf("New(%d): sector %d is %q", n, at, text)
			}
		}
	}
}

// P2.1: sizes that may not be.
func TestNewOfWrongSizes(t *testing.T) {
	for _, n := range []int{math.MinInt, -130, -10, -1, 0, 1, 9, 131, 132, 1000, 1 << 32, 1<<32 + 10, math.MaxInt} {
		if d, why := sector.New(n); why != api.ErrSize || d.Sectors != nil {
			t.Errorf("New(%d): %d sectors, %d, want none and ErrSize", n, len(d.Sectors), why)
		}
	}
}

// call is one of those that are handed a disk and a place: what each answers, beside its error, is blank or not.
type call struct {
	name string
	do   func(d api.Disk, at int) (blank bool, why api.Errno)
}

func calls(text string, k int) []call {
	return []call{
		{"Read", func(d api.Disk, at int) (bool, api.Errno) {
			s, why := sector.Read(d, at)
			return s == "", why
		}},
		{"Write", func(d api.Disk, at int) (bool, api.Errno) {
			e, why := sector.Write(d, at, text)
			return e.Sectors == nil, why
		}},
		{"Tear", func(d api.Disk, at int) (bool, api.Errno) {
			e, why := sector.Tear(d, at, text, k)
			return e.Sectors == nil, why
		}},
	}
}

// P2.1: a disk that may not be is told first, whatever else is wrong.
func TestWrongDisks(t *testing.T) {
	for name, d := range wrongDisks() {
		for _, at := range []int{math.MinInt, -1, 0, 4, 9, 10, 129, 130, 131, math.MaxInt} {
			for _, text := range []string{"", full("a"), full("a") + "a"} {
				for _, k := range []int{-1, 0, 128, 129} {
					for _, c := range calls(text, k) {
						if blank, why := c.do(d, at); !blank || why != api.ErrArg {
							t.Errorf("%s of %s at %d, %d bytes, %d: %v, %d, want ErrArg", c.name, name, at, len(text), k, blank, why)
						}
					}
				}
			}
		}
	}
}

// P2.1: a place where there is no sector is told ahead of what is wrong with the text and with k.
func TestWrongPlaces(t *testing.T) {
	for _, n := range []int{10, 11, 54, 129, 130} {
		for _, at := range []int{math.MinInt, -n, -1, n, n + 1, 130, 1 << 32, math.MaxInt} {
			for _, text := range []string{"", full("a")[:127], full("a"), full("a") + "a"} {
				for _, k := range []int{math.MinInt, -1, 0, 64, 128, 129, math.MaxInt} {
					for _, c := range calls(text, k) {
						if blank, why := c.do(disk(n), at); !blank || why != api.ErrRange {
							t.Errorf("%s of %d sectors at %d, %d bytes, %d: %v, %d, want ErrRange", c.name, n, at, len(text), k, blank, why)
						}
					}
				}
			}
		}
	}
}

// P2.1: all places from the first one to the last one have a sector.
func TestRightPlaces(t *testing.T) {
	for _, n := range []int{10, 11, 54, 129, 130} {
		for at := range n {
			for _, c := range calls(full("a"), 64) {
				if blank, why := c.do(disk(n), at); blank || why != api.OK {
					t.Errorf("%s of %d sectors at %d: %v, %d", c.name, n, at, blank, why)
				}
			}
		}
	}
}

// P2.2: Read is the sector at that place.
func TestRead(t *testing.T) {
	for _, n := range []int{10, 54, 130} {
		d := disk(n)
		for at := range n {
			if text, why := sector.Read(d, at); why != api.OK || text != d.Sectors[at] {
				t.Errorf("Read of %d sectors at %d: %q, %d", n, at, text, why)
			}
		}
	}
}

// P2.2, P2.3: Write is the disk with the text as that sector, and all others as they were.
func TestWrite(t *testing.T) {
	r := source()
	for _, n := range []int{10, 54, 130} {
		for at := range n {
			for _, text := range []string{full("\x00"), full("a"), full("\xff"), strings.Repeat("\u00e4", 64), randomText(r, 128)} {
				d, why := sector.Write(disk(n), at, text)
				if why != api.OK || !same(d, with(disk(n), at, text)) {
					t.Fatalf("Write of %q to %d sectors at %d: %q, %d", text, n, at, d.Sectors, why)
				}
			}
		}
	}
}

// P2.2: what was written is read.
func TestWriteAndRead(t *testing.T) {
	r := source()
	d, _ := sector.New(10)
	want := slices.Clone(d.Sectors)
	for range 200 {
		at, text := r.IntN(10), randomText(r, 128)
		d, _ = sector.Write(d, at, text)
		want[at] = text
		for i := range 10 {
			if got, why := sector.Read(d, i); why != api.OK || got != want[i] {
				t.Fatalf("Read at %d: %q, %d, want %q", i, got, why, want[i])
			}
		}
	}
}

// P2.2: texts that are not of a sector's size.
func TestWrongTexts(t *testing.T) {
	for n := range 300 {
		if n == 128 {
			continue
		}
		text := strings.Repeat("a", n)
		for _, at := range []int{0, 4, 9} {
			if d, why := sector.Write(disk(10), at, text); why != api.ErrSize || d.Sectors != nil {
				t.Errorf("Write of %d bytes at %d: %d sectors, %d, want ErrSize", n, at, len(d.Sectors), why)
			}
			for _, k := range []int{math.MinInt, -1, 0, n, 64, 128, 129, math.MaxInt} {
				if d, why := sector.Tear(disk(10), at, text, k); why != api.ErrSize || d.Sectors != nil {
					t.Errorf("Tear of %d bytes at %d, %d: %d sectors, %d, want ErrSize", n, at, k, len(d.Sectors), why)
				}
			}
		}
	}
	if _, why := sector.Write(disk(10), 0, strings.Repeat("\u00e4", 128)); why != api.ErrSize {
		t.Errorf("Write of 128 runes, 256 bytes: %d, want ErrSize", why)
	}
}

// P2.2: a write isn't torn ahead of its first byte or behind its last one.
func TestWrongTears(t *testing.T) {
	for _, k := range []int{math.MinInt, -129, -128, -1, 129, 130, 256, 1 << 32, math.MaxInt} {
		for _, at := range []int{0, 4, 9} {
			if d, why := sector.Tear(disk(10), at, full("a"), k); why != api.ErrArg || d.Sectors != nil {
				t.Errorf("Tear at %d, %d: %d sectors, %d, want ErrArg", at, k, len(d.Sectors), why)
			}
		}
	}
}

// P2.2: the chapter's example.
func TestTearExample(t *testing.T) {
	d, _ := sector.New(10)
	d, why := sector.Tear(d, 0, full("a"), 3)
	if why != api.OK {
		t.Fatalf("Tear: %d", why)
	}
	want := "aaa" + strings.Repeat("\x00", 125)
	if text, why := sector.Read(d, 0); why != api.OK || text != want {
		t.Errorf("Read: %q, %d, want %q", text, why, want)
	}
	for at := 1; at < 10; at++ {
		if text, _ := sector.Read(d, at); text != full("\x00") {
			t.Errorf("Read at %d: %q", at, text)
		}
	}
}

// P2.2, P2.3: Tear is the disk with the text's first k bytes and then what stood there, and all other sectors as they were.
func TestTear(t *testing.T) {
	text := randomText(rand.New(rand.NewPCG(5, 6)), 128)
	for _, n := range []int{10, 130} {
		for _, at := range []int{0, 1, n / 2, n - 2, n - 1} {
			for k := range 129 {
				d, why := sector.Tear(disk(n), at, text, k)
				if want := with(disk(n), at, text[:k]+disk(n).Sectors[at][k:]); why != api.OK || !same(d, want) {
					t.Fatalf("Tear of %d sectors at %d, %d: %q, %d", n, at, k, d.Sectors, why)
				}
			}
		}
	}
}

// P2.3: torn at 0 a write is none, torn at 128 it is whole.
func TestTearAtBothEnds(t *testing.T) {
	text := full("a")
	for at := range 10 {
		if d, why := sector.Tear(disk(10), at, text, 0); why != api.OK || !same(d, disk(10)) {
			t.Errorf("Tear at %d, 0: %q, %d", at, d.Sectors, why)
		}
		whole, _ := sector.Write(disk(10), at, text)
		if d, why := sector.Tear(disk(10), at, text, 128); why != api.OK || !same(d, whole) {
			t.Errorf("Tear at %d, 128: %q, %d", at, d.Sectors, why)
		}
	}
}

// P2.3: torn once more further on, a write is as torn there at once.
func TestTearOnceMore(t *testing.T) {
	text := full("a")
	for _, at := range []int{0, 9} {
		for first := range 129 {
			d, _ := sector.Tear(disk(10), at, text, first)
			for second := first; second <= 128; second++ {
				twice, why := sector.Tear(d, at, text, second)
				once, _ := sector.Tear(disk(10), at, text, second)
				if why != api.OK || !same(twice, once) {
					t.Fatalf("Tear at %d, %d and %d: %q, %d", at, first, second, twice.Sectors, why)
				}
			}
		}
	}
}

// R4: no call changes the disk that it was handed, nor what lies behind its list; what is then done to the answer does not reach it either.
func TestHandedDisksStay(t *testing.T) {
	room := append(disk(10).Sectors, "behind")
	d := api.Disk{Sectors: room[:10]}
	check := func(name string) {
		t.Helper()
		if !slices.Equal(room[:10], disk(10).Sectors) || room[10] != "behind" {
			t.Fatalf("%s changed the disk", name)
		}
	}
	for at := -1; at <= 10; at++ {
		for _, text := range []string{"", full("a"), full("a") + "a"} {
			sector.Right(d)
			check("Right")
			sector.Read(d, at)
			check("Read")
			for _, k := range []int{-1, 0, 3, 128, 129} {
				e, _ := sector.Tear(d, at, text, k)
				check("Tear")
				overwrite(e)
				check("what was done to Tear's answer")
			}
			e, _ := sector.Write(d, at, text)
			check("Write")
			overwrite(e)
			check("what was done to Write's answer")
		}
	}
}

func overwrite(d api.Disk) {
	for i := range d.Sectors {
		d.Sectors[i] = "overwritten"
	}
	_ = append(d.Sectors, "overwritten")
}

// R1: a call answers the same, whatever was called ahead of it and whatever came of its answers.
func TestNothingIsKept(t *testing.T) {
	for range 3 {
		d, why := sector.New(10)
		if why != api.OK || !same(d, api.Disk{Sectors: slices.Repeat([]string{full("\x00")}, 10)}) {
			t.Fatalf("New: %q, %d", d.Sectors, why)
		}
		e, _ := sector.Write(d, 2, full("b"))
		if text, _ := sector.Read(e, 2); text != full("b") {
			t.Errorf("Read: %q", text)
		}
		if text, _ := sector.Read(d, 2); text != full("\x00") {
			t.Errorf("Read of the disk ahead of the write: %q", text)
		}
		overwrite(d)
		overwrite(e)
	}
}

// R3: a nil list is an empty one: a disk of no sectors, which may not be.
func TestNilAndEmpty(t *testing.T) {
	for _, d := range []api.Disk{{}, {Sectors: []string{}}} {
		if sector.Right(d) {
			t.Error("Right of no sectors")
		}
		for _, c := range calls(full("a"), 0) {
			if _, why := c.do(d, 0); why != api.ErrArg {
				t.Errorf("%s: %d, want ErrArg", c.name, why)
			}
		}
	}
}
