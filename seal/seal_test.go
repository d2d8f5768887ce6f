package seal_test

import (
	"hash/crc32"
	"math"
	"math/rand/v2"
	"strings"
	"testing"

	"foghorn/api"
	"foghorn/seal"
	"foghorn/sector"
)

// A seed that stays the same: a run that fails fails again.
func source() *rand.Rand {
	return rand.New(rand.NewPCG(7, 8))
}

func randomText(r *rand.Rand, n int) string {
	b := make([]byte, n)
	for i := range b {
		b[i] = byte(r.Uint32())
	}
	return string(b)
}

func zeros(n int) string {
	return strings.Repeat("\x00", n)
}

// summed is the 99 bytes with their sum behind them, as the library reckons it.
func summed(front string) string {
	sum := crc32.ChecksumIEEE([]byte(front))
	return front + string([]byte{byte(sum >> 24), byte(sum >> 16), byte(sum >> 8), byte(sum)})
}

// raw is 128 bytes whose ends and whose sum fit, whether the rest is a sealed sector's or not.
func raw(gen, no, length byte, body, blank string) string {
	stamp := string([]byte{gen, no})
	return summed(stamp+string([]byte{length})+body) + blank + stamp
}

// laid is the sealed sector, byte by byte as the chapter lays it.
func laid(gen, no int, payload string) string {
	return raw(byte(gen), byte(no), byte(len(payload)), payload+zeros(96-len(payload)), zeros(23))
}

// sealed is one that Seal is known to answer.
func sealed(t *testing.T, gen, no int, payload string) string {
	t.Helper()
	text, why := seal.Seal(gen, no, payload)
	if why != api.OK {
		t.Fatalf("Seal(%d, %d, %q): %d", gen, no, payload, why)
	}
	return text
}

// with is the text with another byte at that place.
func with(text string, at int, b byte) string {
	return text[:at] + string([]byte{b}) + text[at+1:]
}

func payloads() []string {
	r := source()
	return []string{
		"", "a", "\x00", "\xff", "ab", "fire host=a",
		strings.Repeat("\u00e4", 48),
		zeros(95), strings.Repeat("a", 95), randomText(r, 95),
		zeros(96), strings.Repeat("a", 96), strings.Repeat("\xff", 96), randomText(r, 96),
		randomText(r, 7), randomText(r, 50) + zeros(3),
	}
}

// wantOpen fails, unless Open answers that error, and beside it nothing.
func wantOpen(t *testing.T, text string, want api.Errno) {
	t.Helper()
	gen, no, payload, why := seal.Open(text)
	if why != want || gen != 0 || no != 0 || payload != "" {
		t.Errorf("Open(%q) = %d, %d, %q, %d, want nothing and %d", text, gen, no, payload, why, want)
	}
}

// wantOpened fails, unless Open answers this stamp and this payload.
func wantOpened(t *testing.T, text string, gen, no int, payload string) {
	t.Helper()
	g, n, p, why := seal.Open(text)
	if why != api.OK || g != gen || n != no || p != payload {
		t.Errorf("Open(%q) = %d, %d, %q, %d, want %d, %d, %q", text, g, n, p, why, gen, no, payload)
	}
}

// P3.1: the chapter's example, its sum written out.
func TestSealExample(t *testing.T) {
	want := "\x01\x00\x00" + zeros(96) + "\x7b\x98\x01\xe7" + zeros(23) + "\x01\x00"
	if got := sealed(t, 1, 0, ""); got != want {
		t.Errorf("Seal(1, 0, \"\") = %q, want %q", got, want)
	}
}

// P3.1: each byte is as the chapter lays it, for all stamps there are.
func TestSealOfEachStamp(t *testing.T) {
	for gen := 1; gen <= 250; gen++ {
		for no := range 65 {
			if got, want := sealed(t, gen, no, "abc"), laid(gen, no, "abc"); got != want {
				t.Fatalf("Seal(%d, %d, \"abc\") = %q, want %q", gen, no, got, want)
			}
		}
	}
}

// P3.1: each byte is as the chapter lays it, for payloads of each length and of all kinds of bytes.
func TestSealOfPayloads(t *testing.T) {
	r := source()
	all := payloads()
	for n := range 97 {
		all = append(all, strings.Repeat("x", n), randomText(r, n))
	}
	for _, payload := range all {
		for _, stamp := range [][2]int{{1, 0}, {1, 64}, {250, 0}, {250, 64}, {128, 32}} {
			if got, want := sealed(t, stamp[0], stamp[1], payload), laid(stamp[0], stamp[1], payload); got != want {
				t.Errorf("Seal(%d, %d, %q) = %q, want %q", stamp[0], stamp[1], payload, got, want)
			}
		}
	}
}

// wantSeal is which error the chapter asks for, that of the stamp ahead of that of the size.
func wantSeal(gen, no, size int) api.Errno {
	switch {
	case gen < 1 || gen > 250 || no < 0 || no > 64:
		return api.ErrArg
	case size > 96:
		return api.ErrSize
	}
	return api.OK
}

// P3.1: which stamps and payloads may not be; numbers are not taken for their low bytes.
func TestSealOfWrongArguments(t *testing.T) {
	ends := []int{math.MinInt, -1 << 32, -256, -255, -250, -64, -2, -1, 0, 1, 2, 63, 64, 65, 66, 249, 250, 251, 255, 256, 257, 320, 506, 1<<32 + 1, math.MaxInt}
	for _, gen := range ends {
		for _, no := range ends {
			for _, size := range []int{0, 1, 95, 96, 97, 98, 128, 256, 257, 1000} {
				text, why := seal.Seal(gen, no, strings.Repeat("a", size))
				want := wantSeal(gen, no, size)
				if why != want || (why == api.OK) != (len(text) == 128) || why != api.OK && text != "" {
					t.Errorf("Seal(%d, %d, %d bytes) = %q, %d, want %d", gen, no, size, text, why, want)
				}
			}
		}
	}
}

// P3.1: a payload's size counts bytes, not runes (R5).
func TestSealCountsBytes(t *testing.T) {
	if _, why := seal.Seal(1, 0, strings.Repeat("\u00e4", 48)); why != api.OK {
		t.Errorf("Seal of 48 runes, 96 bytes: %d", why)
	}
	if text, why := seal.Seal(1, 0, strings.Repeat("\u00e4", 49)); why != api.ErrSize || text != "" {
		t.Errorf("Seal of 49 runes, 98 bytes: %q, %d, want ErrSize", text, why)
	}
}

// P3.2: what the chapter lays is opened, whoever laid it.
func TestOpen(t *testing.T) {
	for _, payload := range payloads() {
		for _, stamp := range [][2]int{{1, 0}, {1, 64}, {250, 0}, {250, 64}, {17, 5}} {
			wantOpened(t, laid(stamp[0], stamp[1], payload), stamp[0], stamp[1], payload)
		}
	}
}

// P3.2: texts that are not of a sector's size, whatever else they are.
func TestOpenOfWrongSizes(t *testing.T) {
	long := strings.Repeat(laid(3, 4, "payload"), 3)
	for n := range len(long) {
		if n == 128 {
			continue
		}
		wantOpen(t, long[:n], api.ErrSize)
		wantOpen(t, zeros(n), api.ErrSize)
		wantOpen(t, strings.Repeat("\xff", n), api.ErrSize)
	}
	wantOpen(t, laid(3, 4, "payload")[1:], api.ErrSize)
	wantOpen(t, "\x00"+laid(3, 4, "payload"), api.ErrSize)
	wantOpen(t, strings.Repeat("\u00e4", 128), api.ErrSize)
}

// P3.2: ends that differ, in one byte of four, in each way; the sum may fit or not.
func TestOpenOfUnlikeEnds(t *testing.T) {
	for _, text := range []string{laid(1, 0, ""), laid(250, 64, "payload"), laid(9, 9, strings.Repeat("a", 96))} {
		for _, at := range []int{0, 1, 126, 127} {
			for b := range 256 {
				if text[at] == byte(b) {
					continue
				}
				other := with(text, at, byte(b))
				wantOpen(t, other, api.ErrState)
				wantOpen(t, summed(other[:99])+other[103:], api.ErrState)
			}
		}
	}
}

// P3.2: ends count in order: the generation is not taken for the number.
func TestOpenOfTurnedEnds(t *testing.T) {
	text := laid(5, 6, "payload")
	wantOpen(t, text[:126]+"\x06\x05", api.ErrState)
	wantOpen(t, text[:126]+"\x05\x05", api.ErrState)
	wantOpen(t, text[:126]+"\x06\x06", api.ErrState)
}

// P3.2: one byte of those that are summed, or of the sum, differs, in each way.
func TestOpenOfWrongSums(t *testing.T) {
	for _, text := range []string{laid(1, 0, ""), laid(250, 64, "payload"), laid(9, 9, strings.Repeat("a", 96))} {
		for at := 2; at < 103; at++ {
			for b := range 256 {
				if text[at] != byte(b) {
					wantOpen(t, with(text, at, byte(b)), api.ErrSum)
				}
			}
		}
	}
}

// P3.2: another stamp at both ends, but the sum of the one that was.
func TestOpenOfAnotherStamp(t *testing.T) {
	for _, stamp := range []string{"\x05\x07", "\x06\x06", "\x06\x05", "\x01\x00", "\x00\x00", "\xff\xff"} {
		text := laid(5, 6, "payload")
		wantOpen(t, stamp+text[2:126]+stamp, api.ErrSum)
	}
}

// P3.2: the sum is of the first 99 bytes, its highest byte first.
func TestOpenOfOtherSums(t *testing.T) {
	text := laid(5, 6, "payload")
	sum := text[99:103]
	turned := string([]byte{sum[3], sum[2], sum[1], sum[0]})
	wantOpen(t, text[:99]+turned+text[103:], api.ErrSum)
	wantOpen(t, text[:99]+zeros(4)+text[103:], api.ErrSum)
	short := summed(text[:98])[98:]
	wantOpen(t, text[:99]+short+text[103:], api.ErrSum)
	wantOpen(t, zeros(128), api.ErrSum)
	wantOpen(t, strings.Repeat("\xff", 128), api.ErrSum)
}

// P3.2: stamps that are none, though ends and sum fit.
func TestOpenOfWrongStamps(t *testing.T) {
	for gen := range 256 {
		for no := range 256 {
			text := laid(gen, no, "ab")
			if gen >= 1 && gen <= 250 && no <= 64 {
				wantOpened(t, text, gen, no, "ab")
			} else {
				wantOpen(t, text, api.ErrArg)
			}
		}
	}
}

// P3.2: a length above 96, though ends and sum fit, and though bytes 0 follow.
func TestOpenOfWrongLengths(t *testing.T) {
	for n := 97; n < 256; n++ {
		for _, body := range []string{zeros(96), strings.Repeat("a", 96)} {
			wantOpen(t, raw(1, 0, byte(n), body, zeros(23)), api.ErrArg)
			wantOpen(t, raw(250, 64, byte(n), body, zeros(23)), api.ErrArg)
		}
	}
}

// P3.2: a byte other than 0 behind the payload, at each place, though ends and sum fit.
func TestOpenOfBytesBehindThePayload(t *testing.T) {
	for n := range 97 {
		body := strings.Repeat("a", n) + zeros(96-n)
		wantOpened(t, raw(1, 0, byte(n), body, zeros(23)), 1, 0, body[:n])
		for at := n; at < 96; at++ {
			for _, b := range []byte{1, 'a', 255} {
				wantOpen(t, raw(1, 0, byte(n), with(body, at, b), zeros(23)), api.ErrArg)
			}
		}
	}
}

// P3.2: a byte other than 0 behind the sum, at each place, in each way, though ends and sum fit.
func TestOpenOfBytesBehindTheSum(t *testing.T) {
	for _, text := range []string{laid(1, 0, ""), laid(250, 64, "payload")} {
		for at := 103; at < 126; at++ {
			for b := 1; b < 256; b++ {
				wantOpen(t, with(text, at, byte(b)), api.ErrArg)
			}
		}
	}
}

// P3.2: bytes 0 at the payload's end belong to it, as its length tells.
func TestOpenKeepsZeros(t *testing.T) {
	for n := range 97 {
		wantOpened(t, raw(2, 3, byte(n), zeros(96), zeros(23)), 2, 3, zeros(n))
	}
}

// P3.2: of several errors the one named first is told.
func TestOpenTellsTheFirstError(t *testing.T) {
	wrong := raw(0, 65, 97, strings.Repeat("a", 96), strings.Repeat("b", 23))
	wantOpen(t, wrong, api.ErrArg)
	wrong = with(wrong, 50, 'x')
	wantOpen(t, wrong, api.ErrSum)
	wrong = with(wrong, 127, 'y')
	wantOpen(t, wrong, api.ErrState)
	wantOpen(t, wrong+"z", api.ErrSize)
	wantOpen(t, wrong[:127], api.ErrSize)
	blank := with(laid(1, 0, "a"), 110, 'b')
	wantOpen(t, with(blank, 99, blank[99]+1), api.ErrSum)
	wantOpen(t, with(blank, 0, 2), api.ErrState)
}

// P3.3: texts that have not 128 bytes, either of both, are told ahead of k.
func TestTornOfWrongSizes(t *testing.T) {
	sizes := []int{0, 1, 64, 127, 128, 129, 256}
	for _, a := range sizes {
		for _, b := range sizes {
			if a == 128 && b == 128 {
				continue
			}
			for _, k := range []int{math.MinInt, -1, 0, 1, a, b, 127, 128, 129, math.MaxInt} {
				if text, why := seal.Torn(strings.Repeat("o", a), strings.Repeat("t", b), k); why != api.ErrSize || text != "" {
					t.Errorf("Torn of %d and %d bytes, %d: %q, %d, want ErrSize", a, b, k, text, why)
				}
			}
		}
	}
}

// P3.3: a write isn't torn ahead of its first byte or behind its last one.
func TestTornOfWrongNumbers(t *testing.T) {
	for _, k := range []int{math.MinInt, -129, -128, -2, -1, 129, 130, 256, 1 << 32, 1<<32 + 64, math.MaxInt} {
		if text, why := seal.Torn(laid(1, 0, "old"), laid(2, 0, "new"), k); why != api.ErrArg || text != "" {
			t.Errorf("Torn at %d: %q, %d, want ErrArg", k, text, why)
		}
	}
}

// P3.3: the first k bytes of the text, and then those of old: what a disk has behind such a write.
func TestTorn(t *testing.T) {
	r := source()
	old, text := randomText(r, 128), randomText(r, 128)
	for k := range 129 {
		got, why := seal.Torn(old, text, k)
		if want := text[:k] + old[k:]; why != api.OK || got != want {
			t.Errorf("Torn at %d: %q, %d, want %q", k, got, why, want)
		}
		if onDisk := tornOnDisk(t, old, text, k); got != onDisk {
			t.Errorf("Torn at %d: %q, but a disk has %q", k, got, onDisk)
		}
	}
	if got, _ := seal.Torn(old, text, 0); got != old {
		t.Errorf("Torn at 0: %q, want the old one", got)
	}
	if got, _ := seal.Torn(old, text, 128); got != text {
		t.Errorf("Torn at 128: %q, want the new one", got)
	}
}

func tornOnDisk(t *testing.T, old, text string, k int) string {
	t.Helper()
	d, _ := sector.New(10)
	d, _ = sector.Write(d, 4, old)
	d, _ = sector.Tear(d, 4, text, k)
	got, why := sector.Read(d, 4)
	if why != api.OK {
		t.Fatalf("Read: %d", why)
	}
	return got
}

// P3.4: what is sealed is opened as it was.
func TestSealedIsOpened(t *testing.T) {
	all := payloads()
	for gen := 1; gen <= 250; gen++ {
		for no := range 65 {
			payload := all[(gen+no)%len(all)]
			wantOpened(t, sealed(t, gen, no, payload), gen, no, payload)
		}
	}
	r := source()
	for n := range 97 {
		for range 20 {
			gen, no, payload := 1+r.IntN(250), r.IntN(65), randomText(r, n)
			wantOpened(t, sealed(t, gen, no, payload), gen, no, payload)
		}
	}
}

// P3.4: what is opened is sealed as it was; of many texts that are nearly sealed, none is opened but those.
func TestOpenedIsSealed(t *testing.T) {
	r := source()
	opened := 0
	for range 20000 {
		text := nearlySealed(r)
		gen, no, payload, why := seal.Open(text)
		if why != api.OK {
			continue
		}
		opened++
		if again, why := seal.Seal(gen, no, payload); why != api.OK || again != text {
			t.Fatalf("Open(%q) is sealed as %q, %d", text, again, why)
		}
	}
	if opened < 1000 || opened > 19000 {
		t.Errorf("%d of 20000 texts were opened: they tell too little", opened)
	}
}

// nearlySealed is 128 bytes whose ends and sum fit, and whose other bytes may.
func nearlySealed(r *rand.Rand) string {
	gen, no, n := byte(r.IntN(256)), byte(r.IntN(70)), r.IntN(100)
	body := (randomText(r, n) + zeros(96))[:96]
	blank := zeros(23)
	switch r.IntN(5) {
	case 0:
		blank = with(blank, r.IntN(23), byte(r.Uint32()))
	case 1:
		body = with(body, r.IntN(96), byte(r.Uint32()))
	}
	return raw(gen, no, byte(n), body, blank)
}

// pairs are sealed sectors of one number and unlike generations, an old one and a new one.
func pairs(t *testing.T) [][2]string {
	r := source()
	var all [][2]string
	add := func(no, gen int, payload string, other int, text string) {
		all = append(all, [2]string{sealed(t, gen, no, payload), sealed(t, other, no, text)})
	}
	add(0, 1, "", 2, "")
	add(64, 250, strings.Repeat("a", 96), 1, strings.Repeat("a", 96))
	add(1, 1, "old", 3, "new")
	add(5, 5, strings.Repeat("\x05", 96), 6, strings.Repeat("\x06", 96))
	for range 200 {
		gen := 1 + r.IntN(250)
		other := 1 + (gen+r.IntN(249))%250
		add(r.IntN(65), gen, randomText(r, r.IntN(97)), other, randomText(r, r.IntN(97)))
	}
	return all
}

// P3.4: torn over one of another generation, of one number, a sealed sector is not opened, or is one of both.
func TestTornOverAnotherGeneration(t *testing.T) {
	for _, p := range pairs(t) {
		old, text := p[0], p[1]
		for k := range 129 {
			got, _ := seal.Torn(old, text, k)
			_, _, _, why := seal.Open(got)
			if (why == api.OK) != (got == old || got == text) {
				t.Fatalf("%q torn over %q at %d: %q is opened with %d", text, old, k, got, why)
			}
			if k > 0 && k < 127 && why == api.OK {
				t.Fatalf("%q torn over %q at %d is opened", text, old, k)
			}
		}
	}
}

// P3.4: torn over something that was not opened, and was itself a torn one of its stamp, of this payload or of another one, a sealed sector is not opened, or is whole.
func TestTornOverATornOne(t *testing.T) {
	for i, p := range pairs(t)[:12] {
		old, first := p[0], p[1]
		gen, no, _, _ := seal.Open(first)
		for _, text := range []string{first, sealed(t, gen, no, payloads()[i])} {
			wantNoThird(t, old, first, text)
		}
	}
}

func wantNoThird(t *testing.T, old, first, text string) {
	t.Helper()
	for k := range 129 {
		torn, _ := seal.Torn(old, first, k)
		if _, _, _, why := seal.Open(torn); why == api.OK {
			continue
		}
		for more := range 129 {
			got, _ := seal.Torn(torn, text, more)
			if _, _, _, why := seal.Open(got); (why == api.OK) != (got == text) {
				t.Fatalf("%q torn at %d over %q torn at %d over %q: %q is opened with %d", text, more, first, k, old, got, why)
			}
		}
	}
}

// P3.4: torn over a sector that was never written it is not opened, or is whole.
func TestTornOverNothing(t *testing.T) {
	for _, p := range pairs(t)[:20] {
		for k := range 129 {
			got, _ := seal.Torn(zeros(128), p[1], k)
			if _, _, _, why := seal.Open(got); (why == api.OK) != (got == p[1]) {
				t.Fatalf("%q torn at %d over nothing: %q is opened with %d", p[1], k, got, why)
			}
		}
	}
}

// P1: whatever a call is given, it answers; a text of chance is not opened.
func TestNothingPanics(t *testing.T) {
	r := source()
	ends := []int{math.MinInt, -1, 0, 1, 64, 96, 128, 250, math.MaxInt}
	for range 2000 {
		text, other := randomText(r, 126+r.IntN(5)), randomText(r, 126+r.IntN(5))
		if gen, no, payload, why := seal.Open(text); why == api.OK {
			t.Errorf("Open(%q) = %d, %d, %q", text, gen, no, payload)
		}
		k := ends[r.IntN(len(ends))]
		seal.Torn(text, other, k)
		seal.Seal(k, ends[r.IntN(len(ends))], text[:r.IntN(len(text))])
	}
	long := strings.Repeat("a", 1<<20)
	wantOpen(t, long, api.ErrSize)
	seal.Torn(long, long, 1<<19)
	if _, why := seal.Seal(1, 0, long); why != api.ErrSize {
		t.Errorf("Seal of %d bytes: %d, want ErrSize", len(long), why)
	}
}

// R1: a call answers the same, whatever was called ahead of it; no payload leaves a trace in the next one.
func TestNothingIsKept(t *testing.T) {
	for range 3 {
		long, short := sealed(t, 250, 64, strings.Repeat("\xff", 96)), sealed(t, 1, 0, "a")
		if long != laid(250, 64, strings.Repeat("\xff", 96)) || short != laid(1, 0, "a") {
			t.Errorf("Seal = %q and %q", long, short)
		}
		wantOpened(t, long, 250, 64, strings.Repeat("\xff", 96))
		wantOpen(t, zeros(128), api.ErrSum)
		wantOpened(t, short, 1, 0, "a")
		if got, why := seal.Torn(long, short, 2); why != api.OK || got != short[:2]+long[2:] {
			t.Errorf("Torn = %q, %d", got, why)
		}
	}
}
