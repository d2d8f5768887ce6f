package code_test

import (
	"strings"
	"testing"

	"foghorn/api"
)

// P17.1: Put of RDuty, by bytes written out.
func TestPutDuty(t *testing.T) {
	wantRight(t, owed(labels("a", ""), 0, 0, 0, 0, 1), "\x01\x00\x00\x00\x01\x00\x00\x00\x00\x00\x00\x01\x01a\x00")
	wantRight(t, owed(ax(), 1, 2, 3, 4, 2), "\x01\x01\x02\x03\x02\x00\x00\x00\x00\x00\x04\x01\x01a\x01x")
	wantRight(t, owed(ax(), 2, 1, 50, 0, 3), "\x01\x02\x01\x32\x03\x00\x00\x00\x00\x00\x00\x01\x01a\x01x")
	wantRight(t, owed(ax(), 3, 3, 99, 1<<40, 3), "\x01\x03\x03\x63\x03\x01\x00\x00\x00\x00\x00\x01\x01a\x01x")
	wantRight(t, owed(labels("a", "x", "b", "", "zone", "eu-1"), 0, 3, 10, 600, 1), "\x01\x00\x03\x0a\x01\x00\x00\x00\x00\x02\x58\x03\x01a\x01x\x01b\x00\x04zone\x04eu-1")
	wantRight(t, owed(longest(), 3, 0, 0, 65535, 2), "\x01\x03\x00\x00\x02\x00\x00\x00\x00\xff\xff\x03\x08aaaaaaaa\x0801234567\x08abcdefgh\x0889-a-z--\x08zzzzzzzz\x08zzzzzzzz")
}

// P17.1: Put of RGone, by bytes written out: how many labels there are, and of each the lengths ahead of its Name and its Value.
func TestPutGone(t *testing.T) {
	wantRight(t, gone(labels("z", "")), "\x02\x01\x01z\x00")
	wantRight(t, gone(labels("ab", "x", "c", "yz")), "\x02\x02\x02ab\x01x\x01c\x02yz")
	wantRight(t, gone(labels("a", "", "b", "", "c", "-")), "\x02\x03\x01a\x00\x01b\x00\x01c\x01-")
	wantRight(t, gone(longest()), "\x02\x03\x08aaaaaaaa\x0801234567\x08abcdefgh\x0889-a-z--\x08zzzzzzzz\x08zzzzzzzz")
	wantRight(t, gone(labels("abcdefgh", "")), "\x02\x01\x08abcdefgh\x00")
	wantRight(t, gone(labels("a", "01234567")), "\x02\x01\x01a\x0801234567")
}

// P17.1: Put of RHush, by bytes written out: one with each kind of matcher, and the one of most bytes, 90.
func TestPutHush(t *testing.T) {
	wantRight(t, hushed(0, 1, asks(is, "a", "")), "\x03\x00\x00\x00\x00\x00\x00\x00\x00\x00\x00\x00\x01\x01\x00\x01a\x00")
	wantRight(t, hushed(5, 9, asks(begins, "a", "we"), asks(has, "z", "")), "\x03\x00\x00\x00\x00\x00\x05\x00\x00\x00\x00\x00\x09\x02\x02\x01a\x02we\x03\x01z\x00")
	wantRight(t, hushed(255, 256, asks(is, "a", "x"), asks(not, "bb", "yy"), asks(begins, "ccc", "zzz"), asks(has, "dddd", "")), "\x03\x00\x00\x00\x00\x00\xff\x00\x00\x00\x00\x01\x00\x04\x00\x01a\x01x\x01\x02bb\x02yy\x02\x03ccc\x03zzz\x03\x04dddd\x00")
	full := hushed(1<<40-1, 1<<40, asks(is, "abcdefgh", "01234567"), asks(not, "abcdefgh", "01234567"), asks(begins, "abcdefgh", "01234567"), asks(is, "abcdefgh", "01234567"))
	part := "\x08abcdefgh\x0801234567"
	text := "\x03\x00\xff\xff\xff\xff\xff\x01\x00\x00\x00\x00\x00\x04\x00" + part + "\x01" + part + "\x02" + part + "\x00" + part
	if len(text) != 90 {
		t.Fatalf("%d bytes", len(text))
	}
	wantRight(t, full, text)
}

// P17.1: matchers are put in the order in which they stand, also where two are the same.
func TestMatchersInOrder(t *testing.T) {
	head := "\x03\x00\x00\x00\x00\x00\x05\x00\x00\x00\x00\x00\x09\x02"
	wantRight(t, hushed(5, 9, asks(has, "z", ""), asks(is, "a", "x")), head+"\x03\x01z\x00\x00\x01a\x01x")
	wantRight(t, hushed(5, 9, asks(is, "a", "x"), asks(has, "z", "")), head+"\x00\x01a\x01x\x03\x01z\x00")
	wantRight(t, hushed(5, 9, asks(is, "a", "x"), asks(is, "a", "x")), head+"\x00\x01a\x01x\x00\x01a\x01x")
}

// P17.1: times as six bytes, the highest first, in each place that has one.
func TestPutTimes(t *testing.T) {
	for time, six := range map[int]string{
		0:             "\x00\x00\x00\x00\x00\x00",
		1:             "\x00\x00\x00\x00\x00\x01",
		127:           "\x00\x00\x00\x00\x00\x7f",
		128:           "\x00\x00\x00\x00\x00\x80",
		255:           "\x00\x00\x00\x00\x00\xff",
		256:           "\x00\x00\x00\x00\x01\x00",
		65536:         "\x00\x00\x00\x01\x00\x00",
		1 << 24:       "\x00\x00\x01\x00\x00\x00",
		1 << 32:       "\x00\x01\x00\x00\x00\x00",
		1<<40 - 1:     "\x00\xff\xff\xff\xff\xff",
		1 << 40:       "\x01\x00\x00\x00\x00\x00",
		0x0102030405:  "\x00\x01\x02\x03\x04\x05",
		0xfe80817f0a:  "\x00\xfe\x80\x81\x7f\x0a",
		0x8000000000:  "\x00\x80\x00\x00\x00\x00",
		0xc3a4c3b6e2:  "\x00\xc3\xa4\xc3\xb6\xe2",
		0xfffefdfcfb:  "\x00\xff\xfe\xfd\xfc\xfb",
		1<<40 - 1<<16: "\x00\xff\xff\xff\x00\x00",
	} {
		wantRight(t, owed(ax(), 0, 0, 0, time, 1), "\x01\x00\x00\x00\x01"+six+"\x01\x01a\x01x")
		if time < 1<<40 {
			wantRight(t, hushed(time, 1<<40, asks(is, "a", "x")), "\x03"+six+"\x01\x00\x00\x00\x00\x00\x01\x00\x01a\x01x")
		}
		if time > 0 {
			wantRight(t, hushed(0, time, asks(is, "a", "x")), "\x03\x00\x00\x00\x00\x00\x00"+six+"\x01\x00\x01a\x01x")
		}
	}
}

// P17.1: names and values of each length, with that ahead of them.
func TestPutLengths(t *testing.T) {
	for name := 1; name <= 8; name++ {
		for value := range 9 {
			n, v := strings.Repeat("a", name), strings.Repeat("9", value)
			text := string([]byte{byte(name)}) + n + string([]byte{byte(value)}) + v
			wantRight(t, gone(labels(n, v)), "\x02\x01"+text)
			wantRight(t, gone(labels(n, v, "b", "")), "\x02\x02"+text+"\x01b\x00")
			wantRight(t, owed(labels(n, v), 0, 0, 0, 0, 1), "\x01\x00\x00\x00\x01\x00\x00\x00\x00\x00\x00\x01"+text)
			wantRight(t, hushed(0, 1, asks(not, n, v)), "\x03\x00\x00\x00\x00\x00\x00\x00\x00\x00\x00\x00\x01\x01\x01"+text)
		}
	}
}

// P17.1: each number of a duty has a byte of its own.
func TestPutNumbers(t *testing.T) {
	for n := range 4 {
		b := string([]byte{byte(n)})
		wantRight(t, owed(ax(), n, 0, 0, 0, 1), "\x01"+b+"\x00\x00\x01\x00\x00\x00\x00\x00\x00\x01\x01a\x01x")
		wantRight(t, owed(ax(), 0, n, 0, 0, 1), "\x01\x00"+b+"\x00\x01\x00\x00\x00\x00\x00\x00\x01\x01a\x01x")
		if n > 0 {
			wantRight(t, owed(ax(), 0, 0, 0, 0, n), "\x01\x00\x00\x00"+b+"\x00\x00\x00\x00\x00\x00\x01\x01a\x01x")
		}
	}
	for n := range 100 {
		wantRight(t, owed(ax(), 0, 0, n, 0, 1), "\x01\x00\x00"+string([]byte{byte(n)})+"\x01\x00\x00\x00\x00\x00\x00\x01\x01a\x01x")
	}
}

// P17.1 and R2: Put of a record that may not be is ErrArg, also where only what its Kind does not have is wrong.
func TestPutOfNone(t *testing.T) {
	wantNone(t, api.Rec{})
	wantNone(t, gone(nil))
	wantNone(t, gone(labels("b", "x", "a", "x")))
	wantNone(t, owed(ax(), 4, 0, 0, 0, 1))
	wantNone(t, owed(ax(), 0, 0, 0, last+1, 1))
	wantNone(t, hushed(9, 5, asks(is, "a", "x")))
	wantNone(t, with(gone(ax()), func(r *api.Rec) { r.Duty.State = 1 }))
	wantNone(t, with(owed(ax(), 0, 0, 0, 0, 1), func(r *api.Rec) { r.Labels = ax() }))
	wantNone(t, with(hushed(5, 9, asks(is, "a", "x")), func(r *api.Rec) { r.Labels = ax() }))
}
