package code_test

import (
	"math/rand/v2"
	"strings"
	"testing"

	"foghorn/api"
	"foghorn/code"
)

// The head of a duty's bytes ahead of its labels, and of a hush's ahead of its matchers.
const (
	dutyHead = "\x01\x00\x00\x00\x01\x00\x00\x00\x00\x00\x00"
	hushHead = "\x03\x00\x00\x00\x00\x00\x05\x00\x00\x00\x00\x00\x09"
)

// P17.2: the empty text, and a Kind alone.
func TestNoText(t *testing.T) {
	wantChar(t, "")
	for b := range 256 {
		wantChar(t, string([]byte{byte(b)}))
	}
}

// P17.2: bytes that are cut short anywhere, at their end and at their beginning.
func TestCutShort(t *testing.T) {
	for _, r := range bases() {
		text := written(r)
		for n := range len(text) {
			wantChar(t, text[:n])
			if n > 0 {
				wantRead(t, text[n:])
			}
		}
	}
}

// P17.2: any one byte more behind it, and any text of bytes of 0, and itself once more.
func TestOneMore(t *testing.T) {
	for _, r := range bases() {
		text := written(r)
		for b := range 256 {
			wantChar(t, text+string([]byte{byte(b)}))
			wantRead(t, string([]byte{byte(b)})+text)
		}
		wantChar(t, text+text)
		wantChar(t, text+strings.Repeat("\x00", 100))
		wantChar(t, text+"\x01a\x01x")
	}
}

// P17.2: any one byte turned to any other one, taken out, or put between: ErrChar, unless these are the bytes of another record that may be.
func TestOneByteTurned(t *testing.T) {
	for _, r := range bases() {
		text := written(r)
		for at := range len(text) {
			for b := range 256 {
				wantRead(t, text[:at]+string([]byte{byte(b)})+text[at+1:])
				wantRead(t, text[:at]+string([]byte{byte(b)})+text[at:])
			}
			wantRead(t, text[:at]+text[at+1:])
		}
	}
}

// P17.2: any two bytes turned, to bytes that count somewhere.
func TestTwoBytesTurned(t *testing.T) {
	for _, r := range bases() {
		text := written(r)
		if len(text) > 30 {
			continue
		}
		for at := range len(text) {
			for other := range at {
				for _, one := range []byte{0, 1, 2, 3, 4, 8, 9, 'a', 'b', '0', 128, 255} {
					for _, two := range []byte{0, 1, 2, 3, 4, 99, 100, 'a', 'z', '-', 255} {
						b := []byte(text)
						b[at], b[other] = one, two
						wantRead(t, string(b))
					}
				}
			}
		}
	}
}

// P17.2: Kinds that there are not, and the Kinds of others.
func TestGetKinds(t *testing.T) {
	for _, r := range bases() {
		text := written(r)
		for kind := range 256 {
			turned := string([]byte{byte(kind)}) + text[1:]
			if kind == r.Kind {
				wantRight(t, r, turned)
			} else {
				wantChar(t, turned)
			}
		}
	}
	for _, kind := range []string{"\x00", "\x04", "\xff"} {
		wantChar(t, kind)
		wantChar(t, kind+"\x01\x01a\x01x")
		wantChar(t, kind+dutyHead[1:]+"\x01\x01a\x01x")
		wantChar(t, kind+hushHead[1:]+"\x01\x00\x01a\x01x")
	}
}

// P17.2: counts that say more, or fewer, than there is, or none.
func TestCounts(t *testing.T) {
	labels, matchers := "\x01a\x01x\x01b\x00\x01c\x01z", "\x00\x01a\x01x\x03\x01z\x00\x01\x01b\x01y"
	for n := range 256 {
		count := string([]byte{byte(n)})
		if n == 3 {
			continue
		}
		wantChar(t, "\x02"+count+labels)
		wantChar(t, dutyHead+count+labels)
		wantChar(t, hushHead+count+matchers)
	}
	wantRight(t, gone([]api.Label{{Name: "a", Value: "x"}, {Name: "b"}, {Name: "c", Value: "z"}}), "\x02\x03"+labels)
	wantRight(t, hushed(5, 9, asks(is, "a", "x"), asks(has, "z", ""), asks(not, "b", "y")), hushHead+"\x03"+matchers)
	wantChar(t, "\x02\x00")
	wantChar(t, dutyHead+"\x00")
	wantChar(t, hushHead+"\x00")
}

// P17.2: too many labels or matchers, all of which there are, and none of which is wrong.
func TestTooMany(t *testing.T) {
	for n := range 40 {
		var row, rising string
		for i := range n {
			row += "\x00\x01a\x01x"
			rising += "\x01" + string([]byte{'a' + byte(i)}) + "\x00"
		}
		count := string([]byte{byte(n)})
		if n >= 1 && n <= 3 {
			continue
		}
		if n <= 26 {
			wantChar(t, "\x02"+count+rising)
			wantChar(t, dutyHead+count+rising)
		}
		if n != 4 {
			wantChar(t, hushHead+count+row)
		}
	}
	four := strings.Repeat("\x00\x01a\x01x", 4)
	wantRight(t, hushed(5, 9, asks(is, "a", "x"), asks(is, "a", "x"), asks(is, "a", "x"), asks(is, "a", "x")), hushHead+"\x04"+four)
	wantChar(t, hushHead+"\x05"+four+"\x00\x01a\x01x")
	wantChar(t, "\x02\xff"+strings.Repeat("\x01a\x00", 255))
	wantChar(t, hushHead+"\xff"+strings.Repeat("\x00\x01a\x00", 255))
}

// P17.2: lengths that reach beyond the end, or leave bytes over.
func TestLengths(t *testing.T) {
	for n := range 256 {
		length := string([]byte{byte(n)})
		if n != 2 {
			wantChar(t, "\x02\x01"+length+"ab\x01x")
			wantChar(t, "\x02\x01\x02ab"+length+"xy")
			wantChar(t, dutyHead+"\x01"+length+"ab\x01x")
			wantChar(t, dutyHead+"\x01\x02ab"+length+"xy")
			wantChar(t, hushHead+"\x01\x00"+length+"ab\x01x")
			wantChar(t, hushHead+"\x01\x00\x02ab"+length+"xy")
		}
		if n > 8 {
			long := strings.Repeat("a", n)
			wantChar(t, "\x02\x01"+length+long+"\x01x")
			wantChar(t, "\x02\x01\x01a"+length+long)
			wantChar(t, hushHead+"\x01\x02\x01a"+length+long)
			wantChar(t, hushHead+"\x01\x02"+length+long+"\x00")
		}
	}
	wantRight(t, gone(labels("ab", "xy")), "\x02\x01\x02ab\x02xy")
	wantChar(t, "\x02\x01\x00\x01x")
	wantChar(t, "\x02\x01\x00\x00")
	wantChar(t, hushHead+"\x01\x00\x00\x00")
	wantChar(t, hushHead+"\x01\x03\x00\x00")
}

// P17.2: labels that do not rise, or are two of one Name.
func TestGetLabelsInNoOrder(t *testing.T) {
	for _, l := range []string{"\x02\x01b\x00\x01a\x00", "\x02\x01a\x00\x01a\x00", "\x02\x01a\x00\x01a\x01x", "\x03\x01a\x00\x01c\x00\x01b\x00", "\x03\x01a\x00\x01b\x00\x01b\x00", "\x02\x02ab\x00\x01a\x00"} {
		wantChar(t, "\x02"+l)
		wantChar(t, dutyHead+l)
	}
}

// P17.2: numbers beyond what may be.
func TestGetNumbers(t *testing.T) {
	tail := "\x01\x01a\x01x"
	for _, no := range []string{
		"\x04\x00\x00\x01\x00\x00\x00\x00\x00\x00", "\x00\x04\x00\x01\x00\x00\x00\x00\x00\x00", "\x00\x00\x64\x01\x00\x00\x00\x00\x00\x00", "\x00\x00\x00\x00\x00\x00\x00\x00\x00\x00", "\x00\x00\x00\x04\x00\x00\x00\x00\x00\x00",
		"\xff\x00\x00\x01\x00\x00\x00\x00\x00\x00", "\x00\xff\x00\x01\x00\x00\x00\x00\x00\x00", "\x00\x00\xff\x01\x00\x00\x00\x00\x00\x00", "\x00\x00\x00\xff\x00\x00\x00\x00\x00\x00",
		"\x00\x00\x00\x01\x01\x00\x00\x00\x00\x01", "\x00\x00\x00\x01\xff\xff\xff\xff\xff\xff", "\x00\x00\x00\x01\x02\x00\x00\x00\x00\x00", "\x00\x00\x00\x01\x80\x00\x00\x00\x00\x00",
	} {
		wantChar(t, "\x01"+no+tail)
	}
	wantRight(t, owed(ax(), 3, 3, 99, last, 3), "\x01\x03\x03\x63\x03\x01\x00\x00\x00\x00\x00"+tail)
	asked := "\x01\x00\x01a\x01x"
	for _, no := range []string{
		"\x01\x00\x00\x00\x00\x01", "\xff\xff\xff\xff\xff\xff", "\x80\x00\x00\x00\x00\x00", "\x01\x00\x00\x00\x01\x00",
	} {
		wantChar(t, "\x03\x00\x00\x00\x00\x00\x05"+no+asked)
		wantChar(t, "\x03"+no+"\x01\x00\x00\x00\x00\x00"+asked)
		wantChar(t, "\x03"+no+"\xff\xff\xff\xff\xff\xff"+asked)
		wantChar(t, "\x03"+no+no+asked)
	}
	wantChar(t, "\x03\x00\x00\x00\x00\x00\x05\x00\x00\x00\x00\x00\x05"+asked)
	wantChar(t, "\x03\x00\x00\x00\x00\x00\x06\x00\x00\x00\x00\x00\x05"+asked)
	wantChar(t, "\x03\x01\x00\x00\x00\x00\x00\x01\x00\x00\x00\x00\x00"+asked)
	wantRight(t, hushed(5, 6, asks(is, "a", "x")), "\x03\x00\x00\x00\x00\x00\x05\x00\x00\x00\x00\x00\x06"+asked)
}

// P17.2: kinds of matchers that there are not, and a Value of MHas.
func TestGetMatchers(t *testing.T) {
	for kind := range 256 {
		b := string([]byte{byte(kind)})
		wantRead(t, hushHead+"\x01"+b+"\x01a\x01x")
		wantRead(t, hushHead+"\x01"+b+"\x01a\x00")
		wantRead(t, hushHead+"\x02\x00\x01a\x00"+b+"\x01a\x00")
	}
	wantChar(t, hushHead+"\x01\x03\x01a\x01x")
	wantChar(t, hushHead+"\x01\x04\x01a\x00")
	wantRight(t, hushed(5, 9, asks(has, "a", "")), hushHead+"\x01\x03\x01a\x00")
}

// P17.2: all texts of up to seven bytes that count somewhere.
func TestAllShortTexts(t *testing.T) {
	texts := []string{""}
	found := 0
	for range 7 {
		var longer []string
		for _, text := range texts {
			for _, b := range []byte{0, 1, 2, 'a', 'b'} {
				longer = append(longer, text+string([]byte{b}))
			}
		}
		for _, text := range longer {
			wantRead(t, text)
			if _, ok := read(text); ok {
				found++
			}
		}
		texts = longer
	}
	if found == 0 {
		t.Error("no record among them")
	}
}

// mixed is a text of up to 130 bytes, of one sort: all bytes, small ones, letters among small ones, or a record's with some turned.
func mixed(r *rand.Rand) string {
	b := make([]byte, r.IntN(131))
	sort := r.IntN(4)
	for i := range b {
		switch sort {
		case 0:
			b[i] = byte(r.IntN(256))
		case 1:
			b[i] = byte(r.IntN(5))
		default:
			b[i] = "\x00\x01\x01\x01\x02\x03ab"[r.IntN(8)]
		}
	}
	if len(b) > 0 && sort != 0 {
		b[0] = byte(1 + r.IntN(3))
	}
	if sort == 3 {
		b = []byte(written(someRecord(r)))
		for range r.IntN(4) {
			b[r.IntN(len(b))] = byte(r.IntN(256))
		}
	}
	return string(b)
}

// P1 and P17.2: texts of up to 130 bytes of all sorts.
func TestAllSorts(t *testing.T) {
	r := source()
	for range 200000 {
		wantRead(t, mixed(r))
	}
}

// P1: texts that are very long.
func TestLongTexts(t *testing.T) {
	for _, r := range bases() {
		wantChar(t, written(r)+string(make([]byte, 1<<24)))
	}
	for _, b := range []string{"\x00", "\x01", "\x02", "\x03", "\xff", "a", "\x01a", "\x02\xff", "\x03\xff"} {
		if got, why := code.Get(strings.Repeat(b, 1<<22)); !isSame(got, api.Rec{}) || why != api.ErrChar {
			t.Errorf("Get of %x, very often, is %d", b, why)
		}
	}
}
