package store_test

import (
	"fmt"
	"math"
	"math/rand/v2"
	"slices"
	"strconv"
	"strings"
	"testing"

	"foghorn/api"
	"foghorn/seal"
	"foghorn/sector"
	"foghorn/store"
)

// A seed that stays the same: a run that fails fails again.
func source() *rand.Rand {
	return rand.New(rand.NewPCG(9, 10))
}

func zeros(n int) string {
	return strings.Repeat("\x00", n)
}

func blank(n int) api.Disk {
	return api.Disk{Sectors: slices.Repeat([]string{zeros(128)}, n)}
}

// with is the disk with another text at that place, whatever its size.
func with(d api.Disk, at int, text string) api.Disk {
	l := slices.Clone(d.Sectors)
	l[at] = text
	return api.Disk{Sectors: l}
}

// sealed is one that Seal is known to answer.
func sealed(t *testing.T, gen, no int, payload string) string {
	t.Helper()
	text, why := seal.Seal(gen, no, payload)
	if why != api.OK {
		t.Fatalf("Seal(%d, %d, %q): %d", gen, no, payload, why)
	}
	return text
}

// place is the sector of record i of a generation, as the chapter lays the areas of n sectors.
func place(n, gen, i int) int {
	if gen%2 == 0 {
		return 2 + i
	}
	return 2 + (n/2 - 1) + i
}

// logged is the disk with a generation's records and its header.
func logged(t *testing.T, d api.Disk, gen int, l ...string) api.Disk {
	t.Helper()
	for i, payload := range l {
		d = with(d, place(len(d.Sectors), gen, i), sealed(t, gen, i+1, payload))
	}
	return with(d, gen%2, sealed(t, gen, 0, ""))
}

// fresh is one that New is known to answer.
func fresh(t *testing.T, n int) api.Store {
	t.Helper()
	s, why := store.New(n)
	if why != api.OK {
		t.Fatalf("New(%d): %d", n, why)
	}
	return s
}

// holding is a store of n sectors with these records, of a generation, and nothing else on its disk.
func holding(t *testing.T, n, gen int, l ...string) api.Store {
	t.Helper()
	return api.Store{Disk: logged(t, blank(n), gen, l...), Gen: gen, Used: len(l), Top: gen}
}

func same(a, b api.Store) bool {
	return slices.Equal(a.Disk.Sectors, b.Disk.Sectors) && a.Gen == b.Gen && a.Used == b.Used && a.Top == b.Top && a.Down == b.Down
}

// show tells a store with its bytes as they can be read.
func show(s api.Store) string {
	return fmt.Sprintf("{Gen %d Used %d Top %d Down %v %q}", s.Gen, s.Used, s.Top, s.Down, s.Disk.Sectors)
}

func isNothing(s api.Store) bool {
	return len(s.Disk.Sectors) == 0 && same(s, api.Store{})
}

// names are so many payloads, no two alike.
func names(word string, n int) []string {
	var l []string
	for i := range n {
		l = append(l, word+strconv.Itoa(i))
	}
	return l
}

var (
	none = api.Fault{Kind: api.FNone}
	fail = api.Fault{Kind: api.FFail}
)

func crash(k int) api.Fault {
	return api.Fault{Kind: api.FCrash, K: k}
}

// wantStore fails, unless this is the store and the error.
func wantStore(t *testing.T, what string, s api.Store, why api.Errno, want api.Store, wantWhy api.Errno) {
	t.Helper()
	if why != wantWhy {
		t.Fatalf("%s: error %d, want %d", what, why, wantWhy)
	}
	if !same(s, want) {
		t.Fatalf("%s: %s, want %s", what, show(s), show(want))
	}
}

// wantBoot fails, unless the disk is booted as this store with these records.
func wantBoot(t *testing.T, what string, d api.Disk, want api.Store, l ...string) {
	t.Helper()
	s, got, why := store.Boot(d)
	wantStore(t, what, s, why, want, api.OK)
	if !slices.Equal(got, l) {
		t.Fatalf("%s: records %q, want %q", what, got, l)
	}
}

// told is what Boot tells of a disk that has one.
func told(t *testing.T, d api.Disk) []string {
	t.Helper()
	s, l, why := store.Boot(d)
	if why != api.OK || s.Used != len(l) || s.Down || !store.Right(s) || !slices.Equal(s.Disk.Sectors, d.Sectors) {
		t.Fatalf("Boot: %s, %q, %d", show(s), l, why)
	}
	return l
}

// wrongDisks have no log.
func wrongDisks() map[string]api.Disk {
	all := map[string]api.Disk{"no sectors": {}, "an empty list": {Sectors: []string{}}}
	for _, n := range []int{1, 2, 4, 6, 8, 9, 11, 13, 53, 127, 129, 131, 132, 134, 200, 260} {
		all[strconv.Itoa(n)+" sectors"] = blank(n)
	}
	for _, size := range []int{0, 1, 127, 129, 256} {
		for _, at := range []int{0, 1, 2, 5, 9} {
			all["a sector of "+strconv.Itoa(size)+" bytes at "+strconv.Itoa(at)] = with(blank(10), at, zeros(size))
		}
	}
	return all
}

// wrongStores may not be, each for one reason.
func wrongStores(t *testing.T) map[string]api.Store {
	all := map[string]api.Store{}
	for name, d := range wrongDisks() {
		all[name] = api.Store{Disk: d, Gen: 1, Used: 0, Top: 1}
	}
	right := holding(t, 10, 7, "a", "b")
	change := func(name string, do func(s *api.Store)) {
		s := right
		do(&s)
		all[name] = s
	}
	change("Gen 0", func(s *api.Store) { s.Gen = 0 })
	change("Gen 251", func(s *api.Store) { s.Gen, s.Top = 251, 251 })
	change("Gen -1", func(s *api.Store) { s.Gen = -1 })
	change("Used -1", func(s *api.Store) { s.Used = -1 })
	change("Used 5", func(s *api.Store) { s.Used = 5 })
	change("Top below Gen", func(s *api.Store) { s.Top = 6 })
	change("Top 251", func(s *api.Store) { s.Top = 251 })
	change("Top 0", func(s *api.Store) { s.Top = 0 })
	return all
}

func wrongFaults() []api.Fault {
	return []api.Fault{
		{Kind: -1}, {Kind: 3}, {Kind: math.MinInt}, {Kind: math.MaxInt}, {Kind: 1 << 32},
		{Kind: api.FNone, K: -1}, {Kind: api.FNone, K: 129}, {Kind: api.FFail, K: -1}, {Kind: api.FFail, K: 129},
		{Kind: api.FCrash, K: -1}, {Kind: api.FCrash, K: 129}, {Kind: api.FCrash, K: math.MinInt}, {Kind: api.FCrash, K: math.MaxInt},
	}
}

// P4.1: Right at each end of each field, all of them with each other.
func TestRight(t *testing.T) {
	gens := []int{math.MinInt, -250, -1, 0, 1, 2, 7, 8, 249, 250, 251, 252, 1 << 32, math.MaxInt}
	for _, n := range []int{8, 9, 10, 11, 12, 53, 54, 128, 129, 130, 131, 132} {
		room := n/2 - 1
		for _, gen := range gens {
			for _, used := range []int{math.MinInt, -1, 0, 1, room - 1, room, room + 1, n, math.MaxInt} {
				for _, top := range append(gens, gen-1, gen, gen+1) {
					want := n%2 == 0 && n >= 10 && n <= 130 && gen >= 1 && gen <= 250 && used >= 0 && used <= room && top >= gen && top <= 250
					for _, down := range []bool{false, true} {
						s := api.Store{Disk: blank(n), Gen: gen, Used: used, Top: top, Down: down}
						if got := store.Right(s); got != want {
							t.Fatalf("Right of %d sectors, Gen %d, Used %d, Top %d: %v", n, gen, used, top, got)
						}
					}
				}
			}
		}
	}
}

// P4.1: a store may not be on a disk that has no log; what its sectors tell is not asked.
func TestRightOfDisks(t *testing.T) {
	for name, s := range wrongStores(t) {
		if store.Right(s) {
			t.Errorf("Right of %s", name)
		}
	}
	if store.Right(api.Store{}) {
		t.Error("Right of no store")
	}
	for _, text := range []string{zeros(128), strings.Repeat("\xff", 128), strings.Repeat("\u00e4", 64), sealed(t, 9, 9, "else")} {
		d := api.Disk{Sectors: slices.Repeat([]string{text}, 10)}
		if !store.Right(api.Store{Disk: d, Gen: 1, Used: 4, Top: 250}) {
			t.Errorf("Right of sectors %q: false", text)
		}
	}
	if store.Right(api.Store{Disk: with(blank(10), 3, strings.Repeat("\u00e4", 128)), Gen: 1, Top: 1}) {
		t.Error("Right of a sector of 128 runes, 256 bytes")
	}
}

// P4.1: each size that may be, each sector of it.
func TestNew(t *testing.T) {
	for n := 10; n <= 130; n += 2 {
		s := fresh(t, n)
		want := api.Store{Disk: with(blank(n), 1, sealed(t, 1, 0, "")), Gen: 1, Used: 0, Top: 1}
		if !same(s, want) || !store.Right(s) {
			t.Fatalf("New(%d): %s", n, show(s))
		}
		wantBoot(t, "Boot of a new one", s.Disk, want)
	}
}

// P4.1: sizes that may not be.
func TestNewOfWrongSizes(t *testing.T) {
	wrong := []int{math.MinInt, math.MinInt + 1, -130, -12, -11, -10, -9, -2, -1, 132, 133, 134, 1000, 1 << 32, 1<<32 + 10, math.MaxInt - 1, math.MaxInt}
	for n := range 10 {
		wrong = append(wrong, n)
	}
	for n := 11; n <= 131; n += 2 {
		wrong = append(wrong, n)
	}
	for _, n := range wrong {
		if s, why := store.New(n); why != api.ErrSize || !isNothing(s) {
			t.Errorf("New(%d): %s, %d, want nothing and ErrSize", n, show(s), why)
		}
	}
}

// wantNoBoot fails, unless Boot answers that error, and beside it nothing.
func wantNoBoot(t *testing.T, what string, d api.Disk, want api.Errno) {
	t.Helper()
	if s, l, why := store.Boot(d); why != want || !isNothing(s) || len(l) != 0 {
		t.Errorf("Boot of %s: %s, %q, %d, want nothing and %d", what, show(s), l, why, want)
	}
}

// P4.2: disks that have no log, though a header may be right.
func TestBootOfWrongDisks(t *testing.T) {
	for name, d := range wrongDisks() {
		wantNoBoot(t, name, d, api.ErrArg)
		if len(d.Sectors) > 2 && len(d.Sectors) != 10 {
			wantNoBoot(t, name+" with a header", with(d, 1, sealed(t, 1, 0, "")), api.ErrArg)
		}
	}
	wantNoBoot(t, "a right header and a short sector", with(fresh(t, 10).Disk, 9, zeros(127)), api.ErrArg)
	wantNoBoot(t, "a right header and a long sector", with(fresh(t, 10).Disk, 2, zeros(129)), api.ErrArg)
}

// notHeaders are texts that are no header at that place, each for one reason.
func notHeaders(t *testing.T, at int) map[string]string {
	gen := 8 + at
	right := sealed(t, gen, 0, "")
	all := map[string]string{
		"bytes 0":                          zeros(128),
		"bytes 255":                        strings.Repeat("\xff", 128),
		"a byte of it that is another one": right[:50] + "x" + right[51:],
		"a blank that is none":             right[:110] + "x" + right[111:],
		"one torn over nothing":            right[:126] + zeros(2),
		"one torn over an older one":       right[:100] + sealed(t, gen-2, 0, "")[100:],
		"the next generation's":            sealed(t, gen+1, 0, ""),
		"the generation's ahead":           sealed(t, gen-1, 0, ""),
		"number 1":                         sealed(t, gen, 1, ""),
		"number 64":                        sealed(t, gen, 64, ""),
		"a payload":                        sealed(t, gen, 0, "a"),
		"a payload of a byte 0":            sealed(t, gen, 0, "\x00"),
		"a record of it":                   sealed(t, gen, 1, "a"),
	}
	return all
}

// P4.2: neither header is right: there is none, whatever the areas hold.
func TestBootOfNoHeader(t *testing.T) {
	full := logged(t, logged(t, blank(10), 8, "a", "b"), 9, "c", "d", "e")
	for name, zero := range notHeaders(t, 0) {
		for other, one := range notHeaders(t, 1) {
			wantNoBoot(t, name+", "+other, with(with(blank(10), 0, zero), 1, one), api.ErrNone)
			wantNoBoot(t, name+", "+other+", with records", with(with(full, 0, zero), 1, one), api.ErrNone)
		}
	}
	wantNoBoot(t, "headers that lie in an area", with(with(blank(10), 2, sealed(t, 8, 0, "")), 6, sealed(t, 9, 0, "")), api.ErrNone)
	wantNoBoot(t, "headers in each other's places", with(with(full, 0, full.Sectors[1]), 1, full.Sectors[0]), api.ErrNone)
}

// P4.2: one header alone is right, be it the one of the lesser generation.
func TestBootOfOneHeader(t *testing.T) {
	for name, text := range notHeaders(t, 0) {
		d := with(logged(t, blank(12), 9, "a", "b"), 0, text)
		wantBoot(t, name+" at 0", d, api.Store{Disk: d, Gen: 9, Used: 2, Top: topOf(d, 9)}, "a", "b")
	}
	for name, text := range notHeaders(t, 1) {
		d := with(logged(t, blank(12), 8, "a", "b", "c"), 1, text)
		wantBoot(t, name+" at 1", d, api.Store{Disk: d, Gen: 8, Used: 3, Top: topOf(d, 8)}, "a", "b", "c")
	}
}

// topOf is the greatest of a generation and of all first bytes that are one.
func topOf(d api.Disk, gen int) int {
	for _, text := range d.Sectors {
		if b := int(text[0]); b >= 1 && b <= 250 && b > gen {
			gen = b
		}
	}
	return gen
}

// P4.2: both headers are right: the greater generation counts, not the one written last, nor the one of more records.
func TestBootOfBothHeaders(t *testing.T) {
	for _, gens := range [][2]int{{2, 1}, {2, 3}, {4, 1}, {2, 249}, {250, 249}, {250, 1}, {128, 127}, {128, 129}} {
		d := logged(t, logged(t, blank(10), gens[0], "even", "more", "most"), gens[1], "odd")
		if gens[0] > gens[1] {
			wantBoot(t, "even", d, api.Store{Disk: d, Gen: gens[0], Used: 3, Top: gens[0]}, "even", "more", "most")
		} else {
			wantBoot(t, "odd", d, api.Store{Disk: d, Gen: gens[1], Used: 1, Top: gens[1]}, "odd")
		}
	}
}

// P4.2: each generation there is, in its own area, from no record to all there is room for.
func TestBootOfEachGeneration(t *testing.T) {
	for _, n := range []int{10, 12, 54, 130} {
		for gen := 1; gen <= 250; gen++ {
			for _, used := range []int{0, 1, n/2 - 2, n/2 - 1} {
				l := names("r", used)
				s := holding(t, n, gen, l...)
				wantBoot(t, "generation "+strconv.Itoa(gen), s.Disk, s, l...)
			}
		}
	}
}

// P4.2: payloads of all kinds are told as they are.
func TestBootOfPayloads(t *testing.T) {
	l := []string{"", "\x00", strings.Repeat("a", 96), strings.Repeat("\u00e4", 48), "a\x00\x00", ""}
	s := holding(t, 14, 3, l...)
	wantBoot(t, "payloads", s.Disk, s, l...)
}

// P4.2: records are told up to the first sector that is not opened as the one that belongs there.
func TestBootUpToAWrongRecord(t *testing.T) {
	l := names("r", 5)
	for _, gen := range []int{8, 9} {
		s := holding(t, 12, gen, l...)
		for i := range 5 {
			right := sealed(t, gen, i+1, l[i])
			older := sealed(t, gen-2, i+1, "older")
			for name, text := range map[string]string{
				"bytes 0":                zeros(128),
				"torn over nothing":      right[:60] + zeros(68),
				"torn over an older one": right[:126] + older[126:],
				"a byte that differs":    right[:10] + "\xfe" + right[11:],
				"an older one":           older,
				"a newer one":            sealed(t, gen+2, i+1, l[i]),
				"of the other area":      sealed(t, gen+1, i+1, l[i]),
				"of the place ahead":     sealed(t, gen, i, l[i]),
				"of the next place":      sealed(t, gen, i+2, l[i]),
				"of the header":          sealed(t, gen, 0, ""),
			} {
				d := with(s.Disk, place(12, gen, i), text)
				want := api.Store{Disk: d, Gen: gen, Used: i, Top: topOf(d, gen)}
				wantBoot(t, name+" at "+strconv.Itoa(i), d, want, l[:i]...)
			}
		}
	}
}

// P4.2: records that lie one sector further on, or in the other area, are none.
func TestBootOfRecordsElsewhere(t *testing.T) {
	d := with(blank(10), 1, sealed(t, 9, 0, ""))
	for i, payload := range []string{"a", "b", "c"} {
		d = with(d, place(10, 8, i), sealed(t, 9, i+1, payload))
		d = with(d, place(10, 9, i+1), sealed(t, 9, i+1, payload))
	}
	wantBoot(t, "elsewhere", d, api.Store{Disk: d, Gen: 9, Used: 0, Top: 9})
}

// P4.2: the last record of an area ends there: what lies behind it is not the same log's.
func TestBootEndsWithTheArea(t *testing.T) {
	even, odd := names("e", 4), names("o", 4)
	d := logged(t, logged(t, blank(10), 2, even...), 1, odd...)
	wantBoot(t, "even", d, api.Store{Disk: d, Gen: 2, Used: 4, Top: 2}, even...)
	d = with(d, 6, sealed(t, 2, 5, "behind"))
	wantBoot(t, "even, and one behind", d, api.Store{Disk: d, Gen: 2, Used: 4, Top: 2}, even...)
}

// P4.2: Top counts the first byte of each sector, opened or not, if it is a generation.
func TestBootTop(t *testing.T) {
	for _, gen := range []int{8, 9} {
		for at := range 10 {
			for b := range 256 {
				d := logged(t, blank(10), gen)
				if at == gen%2 {
					continue
				}
				d = with(d, at, string([]byte{byte(b)})+zeros(127))
				want := gen
				if b > gen && b <= 250 {
					want = b
				}
				wantBoot(t, "first byte "+strconv.Itoa(b)+" at "+strconv.Itoa(at), d, api.Store{Disk: d, Gen: gen, Used: 0, Top: want})
			}
		}
	}
}

// P4.2: Top is the greatest of all, whatever comes behind it, and no other byte than the first counts.
func TestBootTopOfMany(t *testing.T) {
	d := logged(t, blank(12), 9, "a")
	for at, b := range []byte{0, 0, 12, 251, 40, 0, 255, 0, 30, 200, 100, 0} {
		if b != 0 {
			d = with(d, at, string([]byte{b})+strings.Repeat("\xf0", 127))
		}
	}
	wantBoot(t, "many", d, api.Store{Disk: d, Gen: 9, Used: 1, Top: 200}, "a")
	d = logged(t, blank(12), 9, "a")
	d = with(d, 3, "\x00"+strings.Repeat("\xf0", 127))
	d = with(d, 4, sealed(t, 20, 64, strings.Repeat("\xf0", 96)))
	wantBoot(t, "an opened one", d, api.Store{Disk: d, Gen: 9, Used: 1, Top: 20}, "a")
}

// wantAppend is which error the chapter asks for, by order.
func wantAppend(storeMay, faultMay bool, size int, down, full bool) api.Errno {
	switch {
	case !storeMay || !faultMay:
		return api.ErrArg
	case size > 96:
		return api.ErrSize
	case down:
		return api.ErrDown
	case full:
		return api.ErrFull
	}
	return api.OK
}

// P4.3: all errors with each other: the one named first is told, and beside it nothing.
func TestAppendErrors(t *testing.T) {
	right := holding(t, 10, 7, "a", "b")
	stores := wrongStores(t)
	stores["right"] = right
	for name, s := range stores {
		may := name == "right"
		for _, f := range append(wrongFaults(), none, fail, crash(0), crash(60), crash(128)) {
			faultMay := f.Kind >= 0 && f.Kind <= 2 && f.K >= 0 && f.K <= 128
			for _, size := range []int{0, 96, 97, 128, 1000} {
				for _, down := range []bool{false, true} {
					for _, full := range []bool{false, true} {
						if full && may {
							s.Used = 4
						} else if may {
							s.Used = 2
						}
						s.Down = down
						want := wantAppend(may, faultMay, size, down, full)
						if want == api.OK {
							continue
						}
						got, why := store.Append(s, strings.Repeat("x", size), f)
						if why != want || !isNothing(got) {
							t.Fatalf("Append of %d bytes with %+v to %s: %s, %d, want nothing and %d", size, f, show(s), show(got), why, want)
						}
					}
				}
			}
		}
	}
}

// P4.3: a record more, in its place and with its number, up to the last one there is room for; then it is full.
func TestAppend(t *testing.T) {
	for _, n := range []int{10, 12, 54, 130} {
		for _, gen := range []int{1, 2, 249, 250} {
			s := holding(t, n, gen)
			l := names("r", n/2-1)
			for i, payload := range l {
				got, why := store.Append(s, payload, none)
				want := s
				want.Disk = with(s.Disk, place(n, gen, i), sealed(t, gen, i+1, payload))
				want.Used = i + 1
				wantStore(t, "Append", got, why, want, api.OK)
				s = got
			}
			wantBoot(t, "full", s.Disk, s, l...)
			if got, why := store.Append(s, "more", none); why != api.ErrFull || !isNothing(got) {
				t.Fatalf("Append to a full one: %s, %d, want nothing and ErrFull", show(got), why)
			}
		}
	}
}

// P4.3: payloads of each size; bytes count, not runes (R5).
func TestAppendPayloads(t *testing.T) {
	s := fresh(t, 10)
	for size := range 97 {
		payload := strings.Repeat("\xff", size)
		got, why := store.Append(s, payload, none)
		if why != api.OK || !slices.Equal(told(t, got.Disk), []string{payload}) {
			t.Fatalf("Append of %d bytes: %d", size, why)
		}
	}
	if _, why := store.Append(s, strings.Repeat("\u00e4", 48), none); why != api.OK {
		t.Errorf("Append of 48 runes, 96 bytes: %d", why)
	}
	if got, why := store.Append(s, strings.Repeat("\u00e4", 49), none); why != api.ErrSize || !isNothing(got) {
		t.Errorf("Append of 49 runes, 98 bytes: %s, %d, want ErrSize", show(got), why)
	}
}

// P4.3: where a record goes hangs on Gen and Used alone, not on what the disk tells; Top stays.
func TestAppendByGenAndUsed(t *testing.T) {
	noise := api.Disk{Sectors: slices.Repeat([]string{strings.Repeat("\xaa", 128)}, 12)}
	for gen := 1; gen <= 250; gen++ {
		for used := range 5 {
			for _, top := range []int{gen, (gen + 250) / 2, 250} {
				s := api.Store{Disk: noise, Gen: gen, Used: used, Top: top}
				got, why := store.Append(s, "a", none)
				want := api.Store{Disk: with(noise, place(12, gen, used), sealed(t, gen, used+1, "a")), Gen: gen, Used: used + 1, Top: top}
				wantStore(t, "Append", got, why, want, api.OK)
			}
		}
	}
}

// P4.3: with no fault, K tells nothing.
func TestAppendWithoutAFault(t *testing.T) {
	s := holding(t, 10, 2, "a")
	for k := range 129 {
		got, why := store.Append(s, "b", api.Fault{Kind: api.FNone, K: k})
		wantStore(t, "Append", got, why, holding(t, 10, 2, "a", "b"), api.OK)
	}
}

// P4.3: a write that fails leaves the store as it was, and it is told; the next one is made.
func TestAppendThatFails(t *testing.T) {
	for _, s := range []api.Store{fresh(t, 10), holding(t, 10, 2, "a"), holding(t, 10, 249, "a", "b", "c"), {Disk: blank(130), Gen: 3, Used: 63, Top: 9}} {
		for k := range 129 {
			got, why := store.Append(s, "lost", api.Fault{Kind: api.FFail, K: k})
			wantStore(t, "Append that fails", got, why, s, api.ErrFault)
			again, why := store.Append(got, "more", none)
			if why != api.OK || again.Used != s.Used+1 {
				t.Fatalf("Append behind it: %s, %d", show(again), why)
			}
		}
	}
}

// P4.3: the power goes at each place: the first K bytes are written, it is down, and that is told; then nothing is taken any more.
func TestAppendThatCrashes(t *testing.T) {
	old := strings.Repeat("\xaa", 128)
	noise := api.Disk{Sectors: slices.Repeat([]string{old}, 12)}
	for _, gen := range []int{6, 7} {
		for k := range 129 {
			s := api.Store{Disk: noise, Gen: gen, Used: 3, Top: 20}
			got, why := store.Append(s, "torn", crash(k))
			want := s
			want.Disk = with(noise, place(12, gen, 3), sealed(t, gen, 4, "torn")[:k]+old[k:])
			want.Down = true
			wantStore(t, "Append that crashes", got, why, want, api.ErrDown)
			for _, f := range []api.Fault{none, fail, crash(9)} {
				if more, why := store.Append(got, "more", f); why != api.ErrDown || !isNothing(more) {
					t.Fatalf("Append to one that is down: %s, %d, want nothing and ErrDown", show(more), why)
				}
				if more, why := store.Turn(got, nil, []api.Fault{f}); why != api.ErrDown || !isNothing(more) {
					t.Fatalf("Turn of one that is down: %s, %d, want nothing and ErrDown", show(more), why)
				}
			}
		}
	}
}

// P4.3: torn at 0 nothing is written, torn at 128 all of it, but Used is as it was: only Boot tells.
func TestAppendThatCrashesAtBothEnds(t *testing.T) {
	s := holding(t, 10, 2, "a")
	got, why := store.Append(s, "b", crash(0))
	want := s
	want.Down = true
	wantStore(t, "at 0", got, why, want, api.ErrDown)
	wantBoot(t, "at 0", got.Disk, s, "a")
	got, why = store.Append(s, "b", crash(128))
	want = holding(t, 10, 2, "a", "b")
	want.Used, want.Down = 1, true
	wantStore(t, "at 128", got, why, want, api.ErrDown)
	wantBoot(t, "at 128", got.Disk, holding(t, 10, 2, "a", "b"), "a", "b")
}

// wantTurn is which error the chapter asks for, by order.
func wantTurn(storeMay, faultsMay, sizesMay, down, many bool, top int) api.Errno {
	switch {
	case !storeMay || !faultsMay:
		return api.ErrArg
	case !sizesMay:
		return api.ErrSize
	case down:
		return api.ErrDown
	case many || top == 250:
		return api.ErrFull
	}
	return api.OK
}

// P4.4: all errors with each other: the one named first is told, and beside it nothing.
func TestTurnErrors(t *testing.T) {
	right := holding(t, 10, 7, "a", "b")
	rows := [][]api.Fault{nil, {}, {none}, {fail}, {crash(60)}, slices.Repeat([]api.Fault{none}, 20)}
	for _, f := range wrongFaults() {
		rows = append(rows, []api.Fault{f}, []api.Fault{crash(0), f}, append(slices.Repeat([]api.Fault{none}, 20), f))
	}
	long := strings.Repeat("x", 97)
	lists := [][]string{nil, {"a"}, names("r", 4), names("r", 5), {long}, {"a", long}, append(names("r", 4), long), {"a", strings.Repeat("x", 1000), "b"}}
	stores := wrongStores(t)
	stores["right"] = right
	for name, s := range stores {
		may := name == "right"
		for _, faults := range rows {
			faultsMay := !slices.ContainsFunc(faults, func(f api.Fault) bool { return f.Kind < 0 || f.Kind > 2 || f.K < 0 || f.K > 128 })
			for _, l := range lists {
				sizesMay := !slices.ContainsFunc(l, func(p string) bool { return len(p) > 96 })
				for _, down := range []bool{false, true} {
					for _, top := range []int{7, 250} {
						if may {
							s.Top = top
						}
						s.Down = down
						want := wantTurn(may, faultsMay, sizesMay, down, len(l) > 4, top)
						if want == api.OK {
							continue
						}
						got, why := store.Turn(s, l, faults)
						if why != want || !isNothing(got) {
							t.Fatalf("Turn of %s, %s, to %d with %+v: %s, %d, want nothing and %d", name, show(s), len(l), faults, show(got), why, want)
						}
					}
				}
			}
		}
	}
}

// nextGen is the least generation above Top of the other area, found one by one.
func nextGen(gen, top int) int {
	g := top + 1
	for g%2 == gen%2 {
		g++
	}
	return g
}

// P4.4: from no payloads to as many as there is room for, and one more.
func TestTurn(t *testing.T) {
	for _, n := range []int{10, 12, 54, 130} {
		for _, gen := range []int{1, 2, 17, 248, 249} {
			s := holding(t, n, gen, "old", "older")
			for size := range n / 2 {
				l := names("r", size)
				got, why := store.Turn(s, l, nil)
				want := api.Store{Disk: logged(t, s.Disk, gen+1, l...), Gen: gen + 1, Used: size, Top: gen + 1}
				wantStore(t, "Turn", got, why, want, api.OK)
				wantBoot(t, "Boot behind it", got.Disk, want, l...)
			}
			for _, size := range []int{n / 2, n/2 + 1, n, 300} {
				if got, why := store.Turn(s, names("r", size), nil); why != api.ErrFull || !isNothing(got) {
					t.Fatalf("Turn of %d sectors to %d: %s, %d, want nothing and ErrFull", n, size, show(got), why)
				}
			}
		}
	}
}

// P4.4: the generation for each Gen and Top there are; none above 250.
func TestTurnGenerations(t *testing.T) {
	noise := api.Disk{Sectors: slices.Repeat([]string{strings.Repeat("\xaa", 128)}, 10)}
	for gen := 1; gen <= 250; gen++ {
		for top := gen; top <= 250; top++ {
			s := api.Store{Disk: noise, Gen: gen, Used: 3, Top: top}
			got, why := store.Turn(s, []string{"a"}, nil)
			g := nextGen(gen, top)
			if g > 250 {
				if why != api.ErrFull || !isNothing(got) {
					t.Fatalf("Turn of Gen %d, Top %d: %s, %d, want nothing and ErrFull", gen, top, show(got), why)
				}
				continue
			}
			want := api.Store{Disk: logged(t, noise, g, "a"), Gen: g, Used: 1, Top: g}
			wantStore(t, "Turn", got, why, want, api.OK)
		}
	}
}

// P4.4: generations at the end, written out.
func TestTurnAtTheLastGenerations(t *testing.T) {
	for _, x := range []struct{ gen, top, want int }{
		{1, 1, 2}, {2, 2, 3}, {1, 2, 4}, {1, 3, 4}, {2, 3, 5}, {2, 4, 5},
		{247, 248, 250}, {248, 248, 249}, {249, 249, 250}, {1, 249, 250}, {1, 248, 250}, {2, 247, 249}, {2, 248, 249},
		{250, 250, 0}, {249, 250, 0}, {248, 249, 0}, {2, 249, 0}, {1, 250, 0}, {2, 250, 0},
	} {
		got, why := store.Turn(api.Store{Disk: blank(10), Gen: x.gen, Top: x.top}, nil, nil)
		if x.want == 0 && (why != api.ErrFull || !isNothing(got)) || x.want != 0 && (why != api.OK || got.Gen != x.want || got.Top != x.want) {
			t.Errorf("Turn of Gen %d, Top %d: Gen %d, Top %d, %d, want %d", x.gen, x.top, got.Gen, got.Top, why, x.want)
		}
	}
}

// wroteUpTo is the disk behind the first so many writes of a turn.
func wroteUpTo(t *testing.T, d api.Disk, g int, l []string, writes int) api.Disk {
	t.Helper()
	for i, payload := range l {
		if i < writes {
			d = with(d, place(len(d.Sectors), g, i), sealed(t, g, i+1, payload))
		}
	}
	if writes > len(l) {
		d = with(d, g%2, sealed(t, g, 0, ""))
	}
	return d
}

// tornAt is where the write with that number goes, and what it writes.
func tornAt(t *testing.T, n, g int, l []string, number int) (int, string) {
	t.Helper()
	if number == len(l) {
		return g % 2, sealed(t, g, 0, "")
	}
	return place(n, g, number), sealed(t, g, number+1, l[number])
}

// turns are stores that a turn begins with, Top being Gen or above it.
func turns(t *testing.T) []api.Store {
	noise := api.Disk{Sectors: slices.Repeat([]string{strings.Repeat("\xaa", 128)}, 10)}
	return []api.Store{
		fresh(t, 10),
		holding(t, 10, 2, "x", "y"),
		holding(t, 12, 9, "x", "y", "z"),
		{Disk: noise, Gen: 6, Used: 3, Top: 6},
		{Disk: noise, Gen: 6, Used: 4, Top: 11},
		{Disk: noise, Gen: 7, Used: 0, Top: 12},
	}
}

// P4.4: each write of a turn fails, the header's too: what was written ahead is on the disk, Top is the new one, Gen and Used are as they were.
func TestTurnThatFails(t *testing.T) {
	for _, s := range turns(t) {
		g := nextGen(s.Gen, s.Top)
		for size := range 5 {
			l := names("new", size)
			for number := range size + 1 {
				for _, k := range []int{0, 60, 128} {
					faults := append(slices.Repeat([]api.Fault{{Kind: api.FNone, K: k}}, number), api.Fault{Kind: api.FFail, K: k}, crash(128))
					got, why := store.Turn(s, l, faults)
					want := s
					want.Disk = wroteUpTo(t, s.Disk, g, l, number)
					want.Top = g
					wantStore(t, "Turn that fails", got, why, want, api.ErrFault)
				}
			}
		}
	}
}

// P4.4: the power goes at each place of each write of a turn.
func TestTurnThatCrashes(t *testing.T) {
	for _, s := range turns(t) {
		g := nextGen(s.Gen, s.Top)
		for size := range 5 {
			l := names("new", size)
			for number := range size + 1 {
				for k := range 129 {
					faults := append(slices.Repeat([]api.Fault{none}, number), crash(k), fail)
					got, why := store.Turn(s, l, faults)
					want := s
					want.Disk = wroteUpTo(t, s.Disk, g, l, number)
					at, text := tornAt(t, len(s.Disk.Sectors), g, l, number)
					want.Disk = with(want.Disk, at, text[:k]+want.Disk.Sectors[at][k:])
					want.Top, want.Down = g, true
					wantStore(t, "Turn that crashes", got, why, want, api.ErrDown)
				}
			}
		}
	}
}

// P4.4: faults that are fewer than writes, as many, and more: those behind the last write come to nothing.
func TestTurnFaultsAndWrites(t *testing.T) {
	s := fresh(t, 10)
	for size := range 5 {
		l := names("new", size)
		want := api.Store{Disk: logged(t, s.Disk, 2, l...), Gen: 2, Used: size, Top: 2}
		for count := range size + 4 {
			got, why := store.Turn(s, l, slices.Repeat([]api.Fault{none}, count))
			wantStore(t, "Turn without a fault", got, why, want, api.OK)
		}
		for _, behind := range []api.Fault{fail, crash(0), crash(60), crash(128)} {
			got, why := store.Turn(s, l, append(slices.Repeat([]api.Fault{none}, size+1), behind))
			wantStore(t, "Turn with a fault behind it", got, why, want, api.OK)
		}
	}
}

// P4.5: the chapter's example.
func TestExample(t *testing.T) {
	s := fresh(t, 10)
	s, why := store.Append(s, "a", none)
	if why != api.OK {
		t.Fatalf("Append a: %d", why)
	}
	s, why = store.Append(s, "b", crash(60))
	if why != api.ErrDown {
		t.Fatalf("Append b: %d, want ErrDown", why)
	}
	_, l, why := store.Boot(s.Disk)
	if why != api.OK || !slices.Equal(l, []string{"a"}) {
		t.Errorf("Boot: %q, %d, want a", l, why)
	}
}

// life is a store and what a boot of it must tell.
type life struct {
	s    api.Store
	want []string
}

// settled is the life behind a crash: a boot tells what was, or what was on its way; which of both is then what was.
func settled(t *testing.T, s api.Store, was, will []string) life {
	t.Helper()
	booted, l, why := store.Boot(s.Disk)
	if why != api.OK || booted.Down || booted.Used != len(l) {
		t.Fatalf("Boot: %s, %q, %d", show(booted), l, why)
	}
	if !slices.Equal(l, was) && !slices.Equal(l, will) {
		t.Fatalf("Boot tells %q, want %q or %q", l, was, will)
	}
	return life{booted, l}
}

// appended is the life behind an append with a fault, booted if the power went.
func appended(t *testing.T, b life, payload string, f api.Fault) life {
	t.Helper()
	s, why := store.Append(b.s, payload, f)
	will := append(slices.Clone(b.want), payload)
	return behind(t, b, s, why, will, f)
}

// turnedTo is the life behind a turn whose last fault is this one, the first so many writes having none.
func turnedTo(t *testing.T, b life, l []string, number int, f api.Fault) life {
	t.Helper()
	s, why := store.Turn(b.s, l, append(slices.Repeat([]api.Fault{none}, number), f))
	return behind(t, b, s, why, l, f)
}

func behind(t *testing.T, b life, s api.Store, why api.Errno, will []string, f api.Fault) life {
	t.Helper()
	switch why {
	case api.OK:
		b = life{s, will}
	case api.ErrFault:
		b = life{s, b.want}
	case api.ErrDown:
		return settled(t, s, b.want, will)
	case api.ErrFull:
		return b
	default:
		t.Fatalf("error %d with %+v", why, f)
	}
	if l := told(t, b.s.Disk); !slices.Equal(l, b.want) {
		t.Fatalf("Boot tells %q, want %q", l, b.want)
	}
	return b
}

// P4.5: what was appended is told, and what was on its way when the power went is whole or not there, at each place of the write, over nothing, over an older generation, and over what a crash left there.
func TestPowerGoesInAnAppend(t *testing.T) {
	for _, first := range []int{0, 1, 2, 50, 99, 102, 125, 126} {
		for k := range 129 {
			for _, turns := range []int{0, 1, 2, 3} {
				b := life{fresh(t, 10), nil}
				for i := range turns {
					b = turnedTo(t, b, names("t"+strconv.Itoa(i)+".", 4-i), 9, none)
				}
				b = turnedTo(t, b, []string{"kept"}, 9, none)
				b = appended(t, b, "first", crash(first))
				if !slices.Equal(b.want, []string{"kept"}) {
					t.Fatalf("torn at %d it is told: %q", first, b.want)
				}
				b = appended(t, b, "second", crash(k))
				if is := len(b.want) == 2; k <= 126 && is || k == 128 && !is {
					t.Fatalf("torn at %d: %q", k, b.want)
				}
				b = appended(t, b, "third", none)
				if slices.Contains(b.want, "first") {
					t.Fatalf("what was not written is told: %q", b.want)
				}
			}
		}
	}
}

// P4.5: a turn on its way when the power went was made, or not, at each place of each write; then the log goes on, and nothing of what was not made is ever told.
func TestPowerGoesInATurn(t *testing.T) {
	l := []string{"new0", "new1", "new2", "new3"}
	for turns := range 4 {
		for number := range 5 {
			for k := range 129 {
				b := life{fresh(t, 10), nil}
				for i := range turns {
					b = turnedTo(t, b, names("t"+strconv.Itoa(i)+".", 3), 9, none)
				}
				b = appended(t, b, "kept", none)
				was := b.want
				b = turnedTo(t, b, l, number, crash(k))
				if made := slices.Equal(b.want, l); number < 4 && made || number == 4 && (k <= 125 && made || k == 128 && !made) {
					t.Fatalf("turn torn at write %d, byte %d: %q, ahead of it %q", number, k, b.want, was)
				}
				b = turnedTo(t, b, []string{"next"}, 9, none)
				b = appended(t, b, "more", none)
				b = turnedTo(t, b, nil, 9, none)
				b = appended(t, b, "last", crash(100))
				b = turnedTo(t, b, []string{"end"}, 1, crash(60))
				if len(b.want) != 0 {
					t.Fatalf("%q is told, want nothing", b.want)
				}
			}
		}
	}
}

// P4.5: writes that fail leave nothing that is told, in an append or in each write of a turn; the header's, too.
func TestWritesThatFailAreNeverTold(t *testing.T) {
	for number := range 4 {
		b := life{fresh(t, 10), nil}
		for round := range 20 {
			b = appended(t, b, "kept"+strconv.Itoa(round), none)
			b = appended(t, b, "lost", fail)
			b = turnedTo(t, b, []string{"lost", "lost", "lost"}, number, fail)
			b = appended(t, b, "more"+strconv.Itoa(round), none)
			if want := []string{"kept" + strconv.Itoa(round), "more" + strconv.Itoa(round)}; !slices.Equal(b.want[len(b.want)-2:], want) {
				t.Fatalf("%q is told, want %q at the end", b.want, want)
			}
			b = turnedTo(t, b, b.want[:1], 9, none)
		}
	}
}

// P4.5: no generation is begun twice, though its turn left just a byte, and the power went: Top is known behind the boot.
func TestNoGenerationTwice(t *testing.T) {
	for _, k := range []int{1, 2, 60, 126} {
		s := fresh(t, 10)
		for want := 2; want <= 250; want += 2 {
			got, why := store.Turn(s, []string{"lost"}, []api.Fault{crash(k)})
			if why != api.ErrDown || got.Top != want {
				t.Fatalf("Turn: Top %d, %d, want %d", got.Top, why, want)
			}
			booted, l, why := store.Boot(got.Disk)
			if why != api.OK || booted.Top != want || booted.Gen != 1 || len(l) != 0 {
				t.Fatalf("Boot: %s, %q, %d", show(booted), l, why)
			}
			s = booted
		}
		if got, why := store.Turn(s, nil, nil); why != api.ErrFull || !isNothing(got) {
			t.Fatalf("Turn at the end: %s, %d, want nothing and ErrFull", show(got), why)
		}
	}
}

// step is one more call of a life, with its own words, so that nothing lost can be taken for another one.
type step func(t *testing.T, b life, word string) life

func steps() []step {
	var all []step
	for _, f := range []api.Fault{none, fail, crash(0), crash(1), crash(60), crash(126), crash(127), crash(128)} {
		all = append(all, func(t *testing.T, b life, word string) life { return appended(t, b, word, f) })
		for _, number := range []int{0, 1, 2} {
			all = append(all, func(t *testing.T, b life, word string) life {
				return turnedTo(t, b, []string{word + "0", word + "1"}, number, f)
			})
		}
	}
	return append(all, func(t *testing.T, b life, word string) life { return settled(t, b.s, b.want, b.want) })
}

// P4.5, P2: all rows of three calls, with all kinds of faults.
func TestAllRowsOfThree(t *testing.T) {
	all := steps()
	start := life{fresh(t, 10), nil}
	for i, one := range all {
		first := one(t, start, "one")
		for j, two := range all {
			second := two(t, first, "two")
			for k, three := range all {
				third := three(t, second, "three")
				if third.s.Gen < second.s.Gen || third.s.Top < third.s.Gen {
					t.Fatalf("row %d, %d, %d: %s", i, j, k, show(third.s))
				}
			}
		}
	}
}

func randomFault(r *rand.Rand) api.Fault {
	switch r.IntN(6) {
	case 0:
		return api.Fault{Kind: api.FFail, K: r.IntN(129)}
	case 1:
		return crash(r.IntN(129))
	case 2:
		return crash(120 + r.IntN(9))
	}
	return none
}

// P4.5, P2: long lives by chance: what Boot tells is just what was appended, or turned to.
func TestLongLives(t *testing.T) {
	r := source()
	for round := range 150 {
		b := life{fresh(t, []int{10, 12, 54, 130}[round%4]), nil}
		for i := range 200 {
			word := strconv.Itoa(i) + "."
			switch {
			case r.IntN(4) > 0:
				b = appended(t, b, word, randomFault(r))
			case r.IntN(4) == 0:
				b = settled(t, b.s, b.want, b.want)
			default:
				l := names(word, r.IntN(5))
				if r.IntN(2) == 0 && len(b.want) > 0 {
					l = b.want[r.IntN(len(b.want)):]
				}
				b = turnedTo(t, b, slices.Clone(l), r.IntN(len(l)+2), randomFault(r))
			}
		}
	}
}

// P2: of a life without crashes a boot changes nothing: the store goes on as the one that was.
func TestBootOfWhatIsUp(t *testing.T) {
	b := life{fresh(t, 12), nil}
	for i := range 60 {
		word := strconv.Itoa(i)
		if i%4 == 3 {
			b = turnedTo(t, b, []string{word, "t"}, 9, none)
		} else {
			b = appended(t, b, word, none)
		}
		wantBoot(t, "Boot at "+word, b.s.Disk, b.s, b.want...)
	}
}

// R4: no call changes a list that it was handed, nor what lies behind it; what is then done to an answer does not reach it.
func TestHandedListsStay(t *testing.T) {
	disk := func() []string { return append(holding(t, 10, 2, "a", "b").Disk.Sectors, "behind") }
	payloads := func() []string { return []string{"x", "y", "behind"} }
	faults := func() []api.Fault { return []api.Fault{none, none, none, crash(99)} }
	room, l, row := disk(), payloads(), faults()
	check := func(name string) {
		t.Helper()
		if !slices.Equal(room, disk()) || !slices.Equal(l, payloads()) || !slices.Equal(row, faults()) {
			t.Fatalf("%s changed what it was handed", name)
		}
	}
	overwrite := func(s api.Store) {
		for i := range s.Disk.Sectors {
			s.Disk.Sectors[i] = "overwritten"
		}
		_ = append(s.Disk.Sectors, "overwritten")
	}
	s := api.Store{Disk: api.Disk{Sectors: room[:10]}, Gen: 2, Used: 2, Top: 2}
	store.Right(s)
	check("Right")
	booted, got, _ := store.Boot(s.Disk)
	overwrite(booted)
	got[0] = "overwritten"
	_ = append(got, "overwritten")
	check("Boot")
	for _, down := range []bool{false, true} {
		for _, f := range []api.Fault{none, fail, crash(0), crash(60), crash(128), {Kind: 3}} {
			s.Down = down
			after, _ := store.Append(s, "more", f)
			check("Append")
			overwrite(after)
			check("what was done to Append's answer")
			for number := range 4 {
				after, _ = store.Turn(s, l[:2], append(slices.Repeat([]api.Fault{none}, number), f))
				check("Turn")
				overwrite(after)
				check("what was done to Turn's answer")
			}
			after, _ = store.Turn(s, l[:2], row[:3])
			overwrite(after)
			check("Turn with a row of faults")
		}
	}
}

// R1: a call answers the same, whatever was called ahead of it and whatever came of its answers.
func TestNothingIsKept(t *testing.T) {
	for range 3 {
		s := fresh(t, 10)
		a, why := store.Append(s, "a", none)
		wantStore(t, "Append a", a, why, holding(t, 10, 1, "a"), api.OK)
		b, why := store.Append(s, "b", none)
		wantStore(t, "Append b", b, why, holding(t, 10, 1, "b"), api.OK)
		down, why := store.Append(s, "c", crash(60))
		if why != api.ErrDown || !down.Down {
			t.Fatalf("Append c: %s, %d", show(down), why)
		}
		turned, why := store.Turn(s, []string{"d"}, nil)
		wantStore(t, "Turn to d", turned, why, api.Store{Disk: logged(t, s.Disk, 2, "d"), Gen: 2, Used: 1, Top: 2}, api.OK)
		wantBoot(t, "Boot", s.Disk, holding(t, 10, 1))
		for i := range s.Disk.Sectors {
			s.Disk.Sectors[i] = "overwritten"
			turned.Disk.Sectors[i] = "overwritten"
		}
	}
}

// R3: nil lists are empty ones.
func TestNilAndEmpty(t *testing.T) {
	for _, d := range []api.Disk{{}, {Sectors: []string{}}} {
		if store.Right(api.Store{Disk: d, Gen: 1, Top: 1}) {
			t.Error("Right of no sectors")
		}
		wantNoBoot(t, "no sectors", d, api.ErrArg)
		if s, why := store.Append(api.Store{Disk: d, Gen: 1, Top: 1}, "a", none); why != api.ErrArg || !isNothing(s) {
			t.Errorf("Append: %s, %d, want ErrArg", show(s), why)
		}
		if s, why := store.Turn(api.Store{Disk: d, Gen: 1, Top: 1}, nil, nil); why != api.ErrArg || !isNothing(s) {
			t.Errorf("Turn: %s, %d, want ErrArg", show(s), why)
		}
	}
	for _, l := range [][]string{nil, {}} {
		for _, faults := range [][]api.Fault{nil, {}} {
			s := holding(t, 10, 1, "a")
			got, why := store.Turn(s, l, faults)
			want := api.Store{Disk: with(s.Disk, 0, sealed(t, 2, 0, "")), Gen: 2, Used: 0, Top: 2}
			wantStore(t, "Turn to nothing", got, why, want, api.OK)
		}
	}
}

// P1: no call panics, whatever it is given.
func TestNothingPanics(t *testing.T) {
	r := source()
	odd := []int{math.MinInt, -1, 0, 1, 4, 5, 128, 129, 250, 251, math.MaxInt}
	pick := func() int { return odd[r.IntN(len(odd))] }
	texts := []string{"", zeros(128), strings.Repeat("\xff", 128), sealed(t, 1, 0, ""), sealed(t, 250, 0, ""), sealed(t, 5, 1, "a"), zeros(127)}
	for range 20000 {
		var d api.Disk
		for range r.IntN(13) {
			d.Sectors = append(d.Sectors, texts[r.IntN(len(texts))])
		}
		if r.IntN(2) == 0 {
			d = blank(10)
		}
		s := api.Store{Disk: d, Gen: pick(), Used: pick(), Top: pick(), Down: r.IntN(2) == 0}
		f := api.Fault{Kind: pick(), K: pick()}
		store.Right(s)
		store.Boot(d)
		store.New(pick())
		store.Append(s, strings.Repeat("x", r.IntN(200)), f)
		store.Turn(s, names("r", r.IntN(70)), []api.Fault{none, f})
	}
}

// P4.5: what is written is what sector writes: a disk is booted wherever it came from.
func TestDisksOfSector(t *testing.T) {
	d, _ := sector.New(10)
	wantNoBoot(t, "a disk that nothing was written to", d, api.ErrNone)
	d, _ = sector.Write(d, 1, sealed(t, 1, 0, ""))
	wantBoot(t, "one with a header", d, fresh(t, 10))
}
