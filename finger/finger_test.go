package finger_test

import (
	"hash/fnv"
	"math"
	"math/big"
	"math/bits"
	"math/rand/v2"
	"slices"
	"strings"
	"testing"

	"foghorn/api"
	"foghorn/finger"
)

const first = 14695981039346656037

// A seed that stays the same: a run that fails fails again.
func source() *rand.Rand {
	return rand.New(rand.NewPCG(22, 23))
}

func randomText(r *rand.Rand, n int) string {
	b := make([]byte, n)
	for i := range b {
		b[i] = byte(r.Uint32())
	}
	return string(b)
}

func allBytes() string {
	b := make([]byte, 256)
	for i := range b {
		b[i] = byte(i)
	}
	return string(b)
}

// hashes are the least and the greatest, those about the middle, and others.
func hashes() []uint64 {
	return []uint64{
		0, 1, 2, 0x7f, 0x80, 0xff, 0x100, 0x1ff,
		1<<32 - 1, 1 << 32, 1<<40 + 0x1b3, 1<<63 - 1, 1 << 63, 1<<63 + 1,
		first, first - 1, ^uint64(first), 0x0123456789abcdef, 0xfedcba9876543210, 0x00ff00ff00ff00ff,
		math.MaxUint64 - 0xff, math.MaxUint64 - 1, math.MaxUint64,
	}
}

// texts are of ordinary bytes, of bytes 0, and of bytes that are no text in UTF-8.
func texts() []string {
	return []string{
		"", "a", "b", "ab", "ba", "abc", "=", "\n", "a=db\n", "a=db\nz=eu-1\n", "The quick brown fox jumps over the lazy dog",
		"\x00", "\x00\x00", "\x00a", "a\x00", "a\x00b", strings.Repeat("\x00", 40),
		"\x80", "\xff", "\xff\xff", "\xc3", "\xc3\xa4", "ä", "a\xc3", "\xc3a", "\xed\xa0\x80", "\xf0\x9f", "\xf0\x9f\x98\x80", "\ufffd", "\xef\xbf", "\ufeff",
		allBytes(), allBytes()[128:], strings.Repeat("\xff", 40), strings.Repeat("foghorn", 50),
	}
}

// behind is what the chapter says of a text behind a hash, in numbers that do not wrap round.
func behind(h uint64, text string) uint64 {
	n := new(big.Int).SetUint64(h)
	factor, end := big.NewInt(1099511628211), new(big.Int).Lsh(big.NewInt(1), 64)
	for i := range len(text) {
		n.Xor(n, big.NewInt(int64(text[i])))
		n.Mul(n, factor)
		n.Mod(n, end)
	}
	return n.Uint64()
}

// asDigits puts each digit in its place, the lowest one first, from the end of the text on.
func asDigits(h uint64) string {
	b := []byte("0000000000000000")
	for i := range b {
		b[15-i] = "0123456789abcdef"[h%16]
		h /= 16
	}
	return string(b)
}

// textOf is the text of labels.
func textOf(l []api.Label) string {
	text := ""
	for _, one := range l {
		text += one.Name + "=" + one.Value + "\x0a"
	}
	return text
}

func fingerOf(l []api.Label) string {
	return asDigits(behind(first, textOf(l)))
}

// labels are of each two texts: a name, and its value.
func labels(texts ...string) []api.Label {
	var l []api.Label
	for i := 0; i < len(texts); i += 2 {
		l = append(l, api.Label{Name: texts[i], Value: texts[i+1]})
	}
	return l
}

func wantMore(t *testing.T, h uint64, text string, want uint64) {
	t.Helper()
	if got := finger.More(h, text); got != want {
		t.Errorf("More(%d, %q) = %d, want %d", h, text, got, want)
	}
}

func wantHex(t *testing.T, h uint64, want string) {
	t.Helper()
	if got := finger.Hex(h); got != want {
		t.Errorf("Hex(%d) = %q, want %q", h, got, want)
	}
}

func wantOf(t *testing.T, l []api.Label, want string) {
	t.Helper()
	if got, why := finger.Of(l); got != want || why != api.OK {
		t.Errorf("Of(%q) = %q, %d, want %q", l, got, why, want)
	}
}

func wantNoOf(t *testing.T, l []api.Label) {
	t.Helper()
	if got, why := finger.Of(l); got != "" || why != api.ErrArg {
		t.Errorf("Of(%q) = %q, %d, want %d and the empty text beside it", l, got, why, api.ErrArg)
	}
}

// P11.1: the empty text behind any hash leaves it as it is.
func TestMoreOfNothing(t *testing.T) {
	for _, h := range hashes() {
		wantMore(t, h, "", h)
	}
	r := source()
	for range 1000 {
		h := r.Uint64()
		wantMore(t, h, "", h)
	}
}

// P11.1: one byte of each of the 256, behind each of some hashes.
func TestMoreOfEachByte(t *testing.T) {
	for _, h := range hashes() {
		for b := range 256 {
			text := string([]byte{byte(b)})
			wantMore(t, h, text, behind(h, text))
		}
	}
	wantMore(t, 0, "\x00", 0)
	wantMore(t, 0, "\x01", 1099511628211)
	wantMore(t, 1, "\x01", 0)
	wantMore(t, 1, "\x00", 1099511628211)
	wantMore(t, 0, "\xff", 255*1099511628211)
	wantMore(t, math.MaxUint64, "\x00", math.MaxUint64-1099511628210)
	wantMore(t, math.MaxUint64, "\xff", math.MaxUint64-256*1099511628211+1)
}

// P11.1: hashes that are known, of texts behind the first one; the chapter's examples are among them.
func TestMoreOfKnownTexts(t *testing.T) {
	for _, c := range []struct {
		text string
		want uint64
	}{
		{"", 0xcbf29ce484222325},
		{"a", 0xaf63dc4c8601ec8c},
		{"b", 0xaf63df4c8601f1a5},
		{"c", 0xaf63de4c8601eff2},
		{"fo", 0x08985907b541d342},
		{"foo", 0xdcb27518fed9d577},
		{"foob", 0xdd120e790c2512af},
		{"fooba", 0xcac165afa2fef40a},
		{"foobar", 0x85944171f73967e8},
		{"\x00", 0xaf63bd4c8601b7df},
		{"a\x00", 0x089be207b544f1e4},
	} {
		wantMore(t, first, c.text, c.want)
		wantHex(t, finger.More(first, c.text), asDigits(c.want))
	}
	wantHex(t, finger.More(first, ""), "cbf29ce484222325")
	wantHex(t, finger.More(first, "a"), "af63dc4c8601ec8c")
}

// P11.1 and R5: texts of several bytes, of bytes 0 and of such as are no text in UTF-8, behind each of some hashes.
func TestMoreOfTexts(t *testing.T) {
	for _, h := range hashes() {
		for _, text := range texts() {
			wantMore(t, h, text, behind(h, text))
		}
	}
}

// P11.1: any texts of all lengths, behind any hashes.
func TestMoreOfManyTexts(t *testing.T) {
	r := source()
	for n := range 400 {
		h, text := r.Uint64(), randomText(r, n)
		wantMore(t, h, text, behind(h, text))
	}
}

// P11.1 and P1: long texts; behind the first hash they are also held against the library's own sum of that kind.
func TestMoreOfLongTexts(t *testing.T) {
	r := source()
	for _, text := range []string{randomText(r, 1<<16), strings.Repeat("\x00", 1<<16+1), strings.Repeat("\xff", 1<<16-1), strings.Repeat(allBytes(), 300)} {
		for _, h := range []uint64{0, first, math.MaxUint64} {
			if got, want := finger.More(h, text), behind(h, text); got != want {
				t.Errorf("More(%d, a text of %d bytes) = %d, want %d", h, len(text), got, want)
			}
		}
	}
	for _, n := range []int{1000, 1 << 20, 1<<24 + 1} {
		text := randomText(r, n)
		sum := fnv.New64a()
		sum.Write([]byte(text))
		if got, want := finger.More(first, text), sum.Sum64(); got != want {
			t.Errorf("More(the first hash, a text of %d bytes) = %d, want %d", n, got, want)
		}
	}
}

// P11.1: hashes as digits, written out.
func TestHexOfKnownHashes(t *testing.T) {
	for _, c := range []struct {
		h    uint64
		want string
	}{
		{0, "0000000000000000"},
		{1, "0000000000000001"},
		{9, "0000000000000009"},
		{10, "000000000000000a"},
		{15, "000000000000000f"},
		{16, "0000000000000010"},
		{255, "00000000000000ff"},
		{256, "0000000000000100"},
		{1<<32 - 1, "00000000ffffffff"},
		{1 << 32, "0000000100000000"},
		{1<<60 - 1, "0fffffffffffffff"},
		{1 << 60, "1000000000000000"},
		{1<<63 - 1, "7fffffffffffffff"},
		{1 << 63, "8000000000000000"},
		{first, "cbf29ce484222325"},
		{0x0123456789abcdef, "0123456789abcdef"},
		{0xfedcba9876543210, "fedcba9876543210"},
		{math.MaxUint64 - 1, "fffffffffffffffe"},
		{math.MaxUint64, "ffffffffffffffff"},
	} {
		wantHex(t, c.h, c.want)
	}
}

// P11.1: each of the 16 digits at each of the 16 places, among all others of one kind.
func TestHexOfEachDigit(t *testing.T) {
	for place := range 16 {
		for digit := range uint64(16) {
			for _, others := range []uint64{0, math.MaxUint64, 0x0123456789abcdef, 0xaaaaaaaaaaaaaaaa} {
				at := 4 * place
				h := others&^(15<<at) | digit<<at
				text := []byte(asDigits(others))
				text[15-place] = "0123456789abcdef"[digit]
				wantHex(t, h, string(text))
			}
		}
	}
}

// P11.1: always 16 digits, small letters; a greater hash's are greater, since the highest is first.
func TestHexOfManyHashes(t *testing.T) {
	r := source()
	all := hashes()
	for range 5000 {
		all = append(all, r.Uint64()>>r.IntN(64))
	}
	slices.Sort(all)
	last := ""
	for i, h := range slices.Compact(all) {
		text := finger.Hex(h)
		if len(text) != 16 || strings.Trim(text, "0123456789abcdef") != "" || text != asDigits(h) {
			t.Errorf("Hex(%d) = %q", h, text)
		}
		if i > 0 && text <= last {
			t.Errorf("Hex(%d) = %q is not behind %q", h, text, last)
		}
		last = text
	}
}

// mayNotBe are labels of which there is no finger.
func mayNotBe() [][]api.Label {
	l := [][]api.Label{
		nil, {}, make([]api.Label, 1), make([]api.Label, 3),
		labels("a", "x", "b", "x", "c", "x", "d", "x"), labels("a", "", "b", "", "c", "", "d", "", "e", ""),
		labels("b", "x", "a", "x"), labels("a", "x", "c", "x", "b", "x"), labels("c", "x", "a", "x", "b", "x"), labels("b", "x", "a", "x", "c", "x"), labels("c", "x", "b", "x", "a", "x"), labels("ab", "x", "a", "x"),
		labels("a", "x", "a", "x"), labels("a", "x", "a", "y"), labels("a", "x", "a", "y", "b", "x"), labels("a", "x", "b", "x", "b", "x"), labels("a", "x", "b", "x", "a", "x"), labels("a", "x", "a", "x", "a", "x"),
	}
	for _, name := range []string{"", "A", "0", "-", "=", " ", "a b", "a=", "a\n", "a1", "a-", "ä", "\x00", "\xff", "a\xff", "abcdefghi", "abcdefghijklmnop"} {
		l = append(l, wherever(api.Label{Name: name, Value: "x"})...)
		l = append(l, wherever(api.Label{Name: name})...)
	}
	for _, value := range []string{"X", "=", " ", "a b", "x=", "x\n", "\n", "_", "x.", "ä", "\x00", "\xff", "x\xff", "123456789", "---------"} {
		l = append(l, wherever(api.Label{Name: "g", Value: value})...)
		l = append(l, wherever(api.Label{Name: "gg", Value: value})...)
	}
	return l
}

// wherever are labels with one at each place of one, two and three, with the others' names such that g and gg rise among them.
func wherever(one api.Label) [][]api.Label {
	a, b, y, z := api.Label{Name: "a", Value: "0"}, api.Label{Name: "b"}, api.Label{Name: "y"}, api.Label{Name: "z", Value: "9"}
	return [][]api.Label{{one}, {one, z}, {a, one}, {one, y, z}, {a, one, z}, {a, b, one}}
}

// P11.2 and R2, R3: of labels that may not be there is ErrArg, and the empty text beside it.
func TestOfNone(t *testing.T) {
	for _, l := range mayNotBe() {
		wantNoOf(t, l)
	}
	for _, l := range wherever(api.Label{Name: "g", Value: "x"}) {
		wantOf(t, l, fingerOf(l))
	}
}

// P11.2: fingers of one, two and three labels, written out.
func TestOfKnownLabels(t *testing.T) {
	for _, c := range []struct {
		l    []api.Label
		text string
		want string
	}{
		{labels("a", ""), "a=\n", "e650bb190491e58b"},
		{labels("a", "db"), "a=db\n", "9a3551323dd7a3bd"},
		{labels("a", "db", "z", "eu-1"), "a=db\nz=eu-1\n", "72b2a5a8879b9bbe"},
		{labels("a", "", "b", "", "c", ""), "a=\nb=\nc=\n", "69300f82f710353a"},
		{labels("abcdefgh", "12345678", "b", "-", "zzzzzzzz", "0-9-a-z-"), "abcdefgh=12345678\nb=-\nzzzzzzzz=0-9-a-z-\n", "42e266f76c24ab3d"},
	} {
		wantOf(t, c.l, c.want)
		wantHex(t, finger.More(first, c.text), c.want)
	}
}

// fewNames rise.
func fewNames() []string {
	return []string{"a", "ab", "abcdefgh", "b", "zone"}
}

func fewValues() []string {
	return []string{"", "a", "ab", "b", "0", "9", "-", "--", "eu-1", "12345678", "0-9-a-z-"}
}

// rows are all labels of one to three of few names and values.
func rows() [][]api.Label {
	var l [][]api.Label
	for chosen := 1; chosen < 1<<len(fewNames()); chosen++ {
		if bits.OnesCount(uint(chosen)) > 3 {
			continue
		}
		some := [][]api.Label{nil}
		for i, name := range fewNames() {
			if chosen>>i&1 == 1 {
				some = withEachValue(some, name)
			}
		}
		l = append(l, some...)
	}
	return l
}

func withEachValue(some [][]api.Label, name string) [][]api.Label {
	var l [][]api.Label
	for _, row := range some {
		for _, value := range fewValues() {
			l = append(l, slices.Concat(row, labels(name, value)))
		}
	}
	return l
}

// P11.2: fingers of all labels of few names and values: each is as the chapter says, and none is another one's.
func TestOfFew(t *testing.T) {
	wantUnlike(t, rows())
}

// wantUnlike holds each finger against the chapter's, and all against each other.
func wantUnlike(t *testing.T, all [][]api.Label) {
	t.Helper()
	of := map[string][]api.Label{}
	for _, l := range all {
		wantOf(t, l, fingerOf(l))
		got, _ := finger.Of(l)
		if other, ok := of[got]; ok {
			t.Errorf("%q and %q have the finger %s", l, other, got)
		}
		of[got] = l
	}
	if len(of) != len(all) {
		t.Errorf("%d labels have %d fingers", len(all), len(of))
	}
}

// cuts are all labels whose names and values, one behind the other, are that text.
func cuts(text string, ahead []api.Label) [][]api.Label {
	var l [][]api.Label
	if text == "" && len(ahead) > 0 {
		l = append(l, ahead)
	}
	if len(ahead) == 3 {
		return l
	}
	for name := 1; name <= len(text); name++ {
		for value := name; value <= len(text); value++ {
			one := api.Label{Name: text[:name], Value: text[name:value]}
			if len(ahead) == 0 || ahead[len(ahead)-1].Name < one.Name {
				l = append(l, cuts(text[value:], append(slices.Clone(ahead), one))...)
			}
		}
	}
	return l
}

// P11.2: labels that differ only in where a name ends, and a value, have unlike fingers.
func TestOfCuts(t *testing.T) {
	for _, text := range []string{"ab", "abc", "abcd", "abcdefgh", "aabbab"} {
		all := cuts(text, nil)
		if len(all) < 3 {
			t.Fatalf("only %d labels are cut from %s", len(all), text)
		}
		wantUnlike(t, all)
	}
	wantUnlike(t, [][]api.Label{labels("a", "bc"), labels("ab", "c"), labels("abc", "")})
	wantUnlike(t, [][]api.Label{labels("a", "b", "c", "d"), labels("a", "bc", "d", ""), labels("ab", "", "c", "d"), labels("a", "", "bc", "d"), labels("a", "b", "cd", "")})
}

// P11.2: labels whose values are exchanged have unlike fingers.
func TestOfExchangedValues(t *testing.T) {
	for _, row := range rows() {
		for i := range row {
			for j := range i {
				other := slices.Clone(row)
				other[i].Value, other[j].Value = row[j].Value, row[i].Value
				if row[i].Value != row[j].Value {
					wantUnlike(t, [][]api.Label{row, other})
				}
			}
		}
	}
}

// P11.3: texts of one length that differ in one byte, at each place and by each change, have unlike hashes behind one hash.
func TestOneByteDiffers(t *testing.T) {
	r := source()
	for _, h := range []uint64{0, 1, first, 1 << 63, math.MaxUint64, r.Uint64()} {
		for _, text := range []string{"a", "ab", "\x00\x00\x00", "\xff\xff\xff", "a=db\n", allBytes()[:8], randomText(r, 16)} {
			for place := range len(text) {
				wantAllUnlike(t, h, text, place)
			}
		}
	}
	long := randomText(r, 5000)
	for _, place := range []int{0, 1, 2500, 4998, 4999} {
		wantAllUnlike(t, first, long, place)
	}
}

// wantAllUnlike puts each of the 256 bytes at that place of the text, one behind the other.
func wantAllUnlike(t *testing.T, h uint64, text string, place int) {
	t.Helper()
	by := map[uint64]int{}
	for b := range 256 {
		other := text[:place] + string([]byte{byte(b)}) + text[place+1:]
		got := finger.More(h, other)
		if was, ok := by[got]; ok {
			t.Fatalf("behind %d, a text of %d bytes with %d or %d at %d has the hash %d", h, len(text), was, b, place, got)
		}
		by[got] = b
	}
}

// P11.3: unlike hashes, whatever bits they differ in, stay unlike behind one text.
func TestUnlikeHashesStayUnlike(t *testing.T) {
	r := source()
	for _, text := range append(texts(), randomText(r, 1000)) {
		for _, h := range hashes() {
			for bit := range 64 {
				wantStillUnlike(t, h, h^1<<bit, text)
			}
			for range 20 {
				wantStillUnlike(t, h, r.Uint64(), text)
			}
			for _, other := range append(hashes(), h+1, h-1, h+1<<32, h^0xff, h^0xff<<56, ^h) {
				wantStillUnlike(t, h, other, text)
			}
		}
	}
}

func wantStillUnlike(t *testing.T, h, other uint64, text string) {
	t.Helper()
	if got := finger.More(h, text); h != other && got == finger.More(other, text) {
		t.Errorf("%q behind %d and behind %d has the hash %d", text, h, other, got)
	}
}

// P11.3: a text behind a text is both together, wherever they are cut, and behind any hash.
func TestTextBehindText(t *testing.T) {
	r := source()
	for _, text := range append(texts(), randomText(r, 70), randomText(r, 200)) {
		for _, h := range []uint64{first, 0, math.MaxUint64, r.Uint64()} {
			for cut := range len(text) + 1 {
				wantMore(t, finger.More(h, text[:cut]), text[cut:], finger.More(h, text))
			}
		}
	}
	all := uint64(first)
	for _, text := range texts() {
		all = finger.More(all, text)
	}
	wantMore(t, first, strings.Join(texts(), ""), all)
}

// P1: no call panics and each ends, at the least and the greatest numbers, long texts and long lists.
func TestNothingPanics(t *testing.T) {
	odd := []string{"", "a", "-", "A", "\x00", "\xff", "abcdefgh", "abcdefghi", strings.Repeat("a", 1<<20), strings.Repeat("\xff", 1<<20)}
	for _, name := range odd {
		for _, value := range odd {
			for _, l := range wherever(api.Label{Name: name, Value: value}) {
				finger.Of(l)
			}
		}
	}
	for _, l := range [][]api.Label{make([]api.Label, 1<<20), slices.Repeat(labels("a", "x"), 1<<20)} {
		if got, why := finger.Of(l); got != "" || why != api.ErrArg {
			t.Errorf("Of %d labels: %q, %d", len(l), got, why)
		}
	}
	wantNoOf(t, labels("a", strings.Repeat("x", 1<<10)))
}

// P11.3 and R4: no call changes the list that it was handed, nor what lies behind its end, and what does is not asked either.
func TestListsStay(t *testing.T) {
	tail := labels("B", "X", "", "", "a", "x")
	for _, row := range append(mayNotBe(), rows()...) {
		long := slices.Concat(row, tail)
		got, why := finger.Of(long[:len(row)])
		again, whyAgain := finger.Of(slices.Clone(row))
		if got != again || why != whyAgain {
			t.Errorf("Of(%q) = %q, %d and %q, %d", row, got, why, again, whyAgain)
		}
		if !slices.Equal(long, slices.Concat(row, tail)) {
			t.Fatalf("%q was handed, and became %q", row, long)
		}
	}
}

// P11.3 and R1: a call answers the same, whatever was called ahead of it, and whatever becomes of what was handed.
func TestNothingIsKept(t *testing.T) {
	l := labels("a", "db", "z", "eu-1")
	want := fingerOf(l)
	for range 3 {
		wantOf(t, l, want)
		wantNoOf(t, nil)
		wantMore(t, first, "a", 0xaf63dc4c8601ec8c)
		wantOf(t, l, want)
		wantOf(t, labels("a", "db"), fingerOf(labels("a", "db")))
		wantMore(t, first, "", first)
		wantHex(t, math.MaxUint64, "ffffffffffffffff")
		wantHex(t, 0, "0000000000000000")
		wantNoOf(t, labels("z", "eu-1", "a", "db"))
		wantMore(t, 0, "\x00", 0)
		spoilt := slices.Clone(l)
		wantOf(t, spoilt, want)
		spoilt[0].Value = "x"
		wantOf(t, spoilt, fingerOf(labels("a", "x", "z", "eu-1")))
	}
}
