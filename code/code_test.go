package code_test

import (
	"encoding/binary"
	"math"
	"math/rand/v2"
	"slices"
	"strings"
	"testing"

	"foghorn/api"
	"foghorn/code"
)

const (
	rDuty, rGone, rHush = 1, 2, 3

	is, not, begins, has = 0, 1, 2, 3

	last = 1 << 40
	most = 90

	letters = "abcdefghijklmnopqrstuvwxyz"
	inValue = letters + "0123456789-"
)

// A seed that stays the same: a run that fails fails again.
func source() *rand.Rand {
	return rand.New(rand.NewPCG(34, 35))
}

func asks(kind int, name, value string) api.Matcher {
	return api.Matcher{Kind: kind, Name: name, Value: value}
}

// labels are of each two texts: a name, and its value.
func labels(texts ...string) []api.Label {
	var l []api.Label
	for i := 0; i < len(texts); i += 2 {
		l = append(l, api.Label{Name: texts[i], Value: texts[i+1]})
	}
	return l
}

// ax are the labels where it doesn't matter which.
func ax() []api.Label {
	return labels("a", "x")
}

// longest are the labels of most bytes.
func longest() []api.Label {
	return labels("aaaaaaaa", "01234567", "abcdefgh", "89-a-z--", "zzzzzzzz", "zzzzzzzz")
}

func quiet(from, to int, asked ...api.Matcher) api.Hush {
	return api.Hush{From: from, To: to, Asked: asked}
}

// owed is a record that a duty stands so.
func owed(l []api.Label, route, place, tries, due, state int) api.Rec {
	return api.Rec{Kind: rDuty, Duty: api.Duty{Labels: l, Route: route, Place: place, Tries: tries, Due: due, State: state}}
}

// gone is a record that there is no duty of these labels any more.
func gone(l []api.Label) api.Rec {
	return api.Rec{Kind: rGone, Labels: l}
}

// hushed is a record of a hush.
func hushed(from, to int, asked ...api.Matcher) api.Rec {
	return api.Rec{Kind: rHush, Hush: quiet(from, to, asked...)}
}

// bases may be: the least ones, the greatest ones, and some between, of each Kind.
func bases() []api.Rec {
	return []api.Rec{
		owed(labels("a", ""), 0, 0, 0, 0, 1),
		owed(ax(), 1, 2, 3, 258, 2),
		owed(labels("a", "x", "b", "", "zone", "eu-1"), 2, 1, 50, 0x0203040506, 3),
		owed(longest(), 3, 3, 99, last, 3),
		gone(labels("z", "")),
		gone(ax()),
		gone(labels("a", "", "b", "-", "c", "0")),
		gone(longest()),
		hushed(0, 1, asks(is, "a", "")),
		hushed(5, 9, asks(begins, "a", "we"), asks(has, "z", "")),
		hushed(255, 65536, asks(not, "b", "y"), asks(is, "b", "y"), asks(not, "b", "y")),
		hushed(last-1, last, asks(is, "abcdefgh", "01234567"), asks(not, "ijklmnop", "89-----9"), asks(begins, "qrstuvwx", "abcdefgh"), asks(begins, "zzzzzzzz", "zzzzzzzz")),
	}
}

// copyOf shares nothing with the record.
func copyOf(r api.Rec) api.Rec {
	r.Duty.Labels = slices.Clone(r.Duty.Labels)
	r.Labels = slices.Clone(r.Labels)
	r.Hush.Asked = slices.Clone(r.Hush.Asked)
	return r
}

// with is the record with one change.
func with(r api.Rec, change func(r *api.Rec)) api.Rec {
	r = copyOf(r)
	change(&r)
	return r
}

// isSame holds a nil list for an empty one.
func isSame(a, b api.Rec) bool {
	return a.Kind == b.Kind && slices.Equal(a.Labels, b.Labels) &&
		slices.Equal(a.Duty.Labels, b.Duty.Labels) && a.Duty.Route == b.Duty.Route && a.Duty.Place == b.Duty.Place && a.Duty.Tries == b.Duty.Tries && a.Duty.Due == b.Duty.Due && a.Duty.State == b.Duty.State &&
		a.Hush.From == b.Hush.From && a.Hush.To == b.Hush.To && slices.Equal(a.Hush.Asked, b.Hush.Asked)
}

// onlyOf asks byte by byte whether a text is least to 8 of those that may stand in it.
func onlyOf(text, these string, least int) bool {
	for i := range len(text) {
		if strings.IndexByte(these, text[i]) < 0 {
			return false
		}
	}
	return len(text) >= least && len(text) <= 8
}

// areLabels is what chapter 10 says of labels.
func areLabels(l []api.Label) bool {
	may := 1 <= len(l) && len(l) <= 3
	for i, one := range l {
		may = may && onlyOf(one.Name, letters, 1) && onlyOf(one.Value, inValue, 0) && (i == 0 || l[i-1].Name < one.Name)
	}
	return may
}

// isMatcher is what chapter 10 says of a matcher.
func isMatcher(m api.Matcher) bool {
	return 0 <= m.Kind && m.Kind <= 3 && onlyOf(m.Name, letters, 1) && onlyOf(m.Value, inValue, 0) && (m.Kind != has || m.Value == "")
}

func isTime(n int) bool {
	return 0 <= n && n <= last
}

// isHush is what chapter 12 says of a hush.
func isHush(h api.Hush) bool {
	may := isTime(h.From) && isTime(h.To) && h.From < h.To && 1 <= len(h.Asked) && len(h.Asked) <= 4
	for _, m := range h.Asked {
		may = may && isMatcher(m)
	}
	return may
}

// isDuty is what the chapter says of a duty in a record.
func isDuty(d api.Duty) bool {
	return areLabels(d.Labels) && 0 <= d.Route && d.Route <= 3 && 0 <= d.Place && d.Place <= 3 && 0 <= d.Tries && d.Tries <= 99 && isTime(d.Due) && 1 <= d.State && d.State <= 3
}

// mayBe is what the chapter says of a record: taken out of it what its Kind has, it is zero.
func mayBe(r api.Rec) bool {
	left := r
	left.Kind = 0
	switch r.Kind {
	case rDuty:
		left.Duty = api.Duty{}
		return isDuty(r.Duty) && isSame(left, api.Rec{})
	case rGone:
		left.Labels = nil
		return areLabels(r.Labels) && isSame(left, api.Rec{})
	case rHush:
		left.Hush = api.Hush{}
		return isHush(r.Hush) && isSame(left, api.Rec{})
	}
	return false
}

// written is what the chapter says of the bytes of a record that may be.
func written(r api.Rec) string {
	b := []byte{byte(r.Kind)}
	switch r.Kind {
	case rDuty:
		b = append(b, byte(r.Duty.Route), byte(r.Duty.Place), byte(r.Duty.Tries), byte(r.Duty.State))
		b = appendTime(b, r.Duty.Due)
		b = appendLabels(b, r.Duty.Labels)
	case rGone:
		b = appendLabels(b, r.Labels)
	case rHush:
		b = appendTime(appendTime(b, r.Hush.From), r.Hush.To)
		b = append(b, byte(len(r.Hush.Asked)))
		for _, m := range r.Hush.Asked {
			b = appendText(appendText(append(b, byte(m.Kind)), m.Name), m.Value)
		}
	}
	return string(b)
}

// appendTime leaves out the two highest of eight bytes.
func appendTime(b []byte, t int) []byte {
	return append(b, binary.BigEndian.AppendUint64(nil, uint64(t))[2:]...)
}

func appendLabels(b []byte, l []api.Label) []byte {
	b = append(b, byte(len(l)))
	for _, one := range l {
		b = appendText(appendText(b, one.Name), one.Value)
	}
	return b
}

func appendText(b []byte, text string) []byte {
	return append(append(b, byte(len(text))), text...)
}

// read is what the chapter says of a text: the record that may be whose bytes it is, and whether there is one. It stops at the first field that there is not.
func read(text string) (api.Rec, bool) {
	var r api.Rec
	var head []byte
	b := []byte(text)
	ok := true
	if b, ok = cutBytes(b, 1, &head); !ok {
		return api.Rec{}, false
	}
	switch r.Kind = int(head[0]); r.Kind {
	case rDuty:
		if b, ok = cutBytes(b, 10, &head); ok {
			r.Duty = api.Duty{Route: int(head[0]), Place: int(head[1]), Tries: int(head[2]), State: int(head[3]), Due: timeOf(head[4:])}
			b, ok = cutLabels(b, &r.Duty.Labels)
		}
	case rGone:
		b, ok = cutLabels(b, &r.Labels)
	case rHush:
		if b, ok = cutBytes(b, 12, &head); ok {
			r.Hush = api.Hush{From: timeOf(head[:6]), To: timeOf(head[6:])}
			b, ok = cutMatchers(b, &r.Hush.Asked)
		}
	}
	if !ok || len(b) > 0 || !mayBe(r) {
		return api.Rec{}, false
	}
	return r, true
}

func timeOf(six []byte) int {
	return int(binary.BigEndian.Uint64(append([]byte{0, 0}, six...)))
}

func cutBytes(b []byte, n int, head *[]byte) ([]byte, bool) {
	if len(b) < n {
		return nil, false
	}
	*head = b[:n]
	return b[n:], true
}

func cutText(b []byte, text *string) ([]byte, bool) {
	if len(b) == 0 || len(b)-1 < int(b[0]) {
		return nil, false
	}
	*text = string(b[1 : 1+int(b[0])])
	return b[1+int(b[0]):], true
}

func cutLabels(b []byte, l *[]api.Label) ([]byte, bool) {
	if len(b) == 0 {
		return nil, false
	}
	n, b := int(b[0]), b[1:]
	for range n {
		var one api.Label
		ok := true
		if b, ok = cutText(b, &one.Name); !ok {
			return nil, false
		}
		if b, ok = cutText(b, &one.Value); !ok {
			return nil, false
		}
		*l = append(*l, one)
	}
	return b, true
}

func cutMatchers(b []byte, ms *[]api.Matcher) ([]byte, bool) {
	if len(b) == 0 {
		return nil, false
	}
	n, b := int(b[0]), b[1:]
	for range n {
		if len(b) == 0 {
			return nil, false
		}
		one := api.Matcher{Kind: int(b[0])}
		ok := true
		if b, ok = cutText(b[1:], &one.Name); !ok {
			return nil, false
		}
		if b, ok = cutText(b, &one.Value); !ok {
			return nil, false
		}
		*ms = append(*ms, one)
	}
	return b, true
}

// wantRight is a record that may be: Put tells the bytes that are expected, and Get of them the record. What is expected is held against what the chapter says.
func wantRight(t *testing.T, r api.Rec, want string) {
	t.Helper()
	if !mayBe(r) || written(r) != want {
		t.Fatalf("the chapter does not say %x of %+v", want, r)
	}
	if !code.Right(r) {
		t.Errorf("Right(%+v) = false", r)
	}
	if got, why := code.Put(r); got != want || why != api.OK {
		t.Errorf("Put(%+v) = %x, %d, want %x", r, got, why, want)
	}
	if got, why := code.Get(want); !isSame(got, r) || why != api.OK {
		t.Errorf("Get(%x) = %+v, %d, want %+v", want, got, why, r)
	}
}

// wantMay is the same, by the chapter's bytes.
func wantMay(t *testing.T, r api.Rec) {
	t.Helper()
	wantRight(t, r, written(r))
}

// wantNone is a record that may not be: Put is ErrArg, with an empty text beside it. What its bytes would be are no record's, or another one's.
func wantNone(t *testing.T, r api.Rec) {
	t.Helper()
	if mayBe(r) {
		t.Fatalf("the chapter says that %+v may be", r)
	}
	if code.Right(r) {
		t.Errorf("Right(%+v) = true", r)
	}
	if got, why := code.Put(r); got != "" || why != api.ErrArg {
		t.Errorf("Put(%+v) = %x, %d, want ErrArg and an empty text beside it", r, got, why)
	}
	wantRead(t, written(r))
}

// wantAsIs holds Right and Put, and Get where there are bytes, against what the chapter says.
func wantAsIs(t *testing.T, r api.Rec) {
	t.Helper()
	if mayBe(r) {
		wantMay(t, r)
	} else {
		wantNone(t, r)
	}
}

// wantChar is a text that is the bytes of no record that may be: Get is ErrChar, with a record that is zero beside it.
func wantChar(t *testing.T, text string) {
	t.Helper()
	if r, ok := read(text); ok {
		t.Fatalf("the chapter says that %x is of %+v", text, r)
	}
	if got, why := code.Get(text); !isSame(got, api.Rec{}) || why != api.ErrChar {
		t.Errorf("Get(%x) = %+v, %d, want ErrChar and a zero record beside it", text, got, why)
	}
}

// wantRead holds Get against what the chapter says.
func wantRead(t *testing.T, text string) {
	t.Helper()
	if r, ok := read(text); ok {
		wantRight(t, r, text)
	} else {
		wantChar(t, text)
	}
}

// fewLabels may be.
func fewLabels() [][]api.Label {
	return [][]api.Label{
		ax(), labels("a", ""), labels("z", "-"), labels("zone", "eu-1"), labels("abcdefgh", "0-9-a-z-"), longest()[:1:1],
		labels("a", "x", "b", "y"), labels("a", "x", "ab", "x"), labels("abcdefgh", "", "abcdefgi", ""), labels("a", "", "b", "z", "c", "w"), labels("a", "x", "b", "", "zone", "eu"), longest(),
	}
}

// noLabels may not be: none, four, not rising, two of one Name, no name, no value.
func noLabels() [][]api.Label {
	l := [][]api.Label{
		nil, {}, ax()[:0], make([]api.Label, 1), make([]api.Label, 3),
		labels("a", "x", "b", "x", "c", "x", "d", "x"), append(longest(), labels("zzzzzzzzz", "")...), slices.Repeat(ax(), 255), slices.Repeat(ax(), 256), slices.Repeat(ax(), 257),
		labels("b", "x", "a", "x"), labels("a", "x", "c", "x", "b", "x"), labels("b", "x", "a", "x", "c", "x"), labels("ab", "x", "a", "x"),
		labels("a", "x", "a", "x"), labels("a", "x", "a", "y"), labels("a", "x", "b", "x", "b", "x"), labels("a", "x", "a", "x", "b", "x"),
	}
	for _, name := range []string{"", "A", "a1", "a-", "abcdefghi", "ä", "a=", " a", "\xff", "\x00", "\x80", strings.Repeat("a", 256), strings.Repeat("a", 257)} {
		l = append(l, labels(name, "x"), labels(name, "x", "zz", "x"), labels("a", "x", name, "x"))
	}
	for _, value := range []string{"X", "abcdefghi", "x_", "x y", " ", "=", "ä", "\xff", "\x00", "\x80", strings.Repeat("x", 256), strings.Repeat("x", 257)} {
		l = append(l, labels("a", value), labels("a", value, "b", "x"), labels("a", "x", "b", "x", "c", value))
	}
	return l
}

// fewTimes are times, both ends among them, and such as have unlike bytes.
func fewTimes() []int {
	return []int{0, 1, 255, 256, 257, 65535, 65536, 1<<24 - 1, 1 << 24, 1<<32 - 1, 1 << 32, 0x0102030405, 0xfffefdfcfb, 0x8081ff7f80, last - 1, last}
}

// noTimes are beyond both ends.
func noTimes() []int {
	return []int{math.MinInt, math.MinInt + 1, -last, -1, last + 1, last + 256, 1<<48 - 1, 1 << 48, 1<<48 + 5, 1<<56 + 5, math.MaxInt - 1, math.MaxInt}
}

// The limits are those that api names.
func TestLimits(t *testing.T) {
	if api.RDuty != rDuty || api.RGone != rGone || api.RHush != rHush || api.SNew != 1 || api.STold != 2 || api.SDone != 3 || api.MaxTick != last || api.MaxRoutes != 4 || api.MaxChain != 4 || api.MaxTries != 100 || api.MaxLabels != 3 || api.MaxAsked != 4 || api.MaxName != 8 || api.ErrChar != 13 {
		t.Fatal("the limits are others")
	}
}

// P17.1 and P17.2: what the wrong records and texts are made of may be, so that each is wrong for the one reason it is made for.
func TestBases(t *testing.T) {
	for _, r := range bases() {
		wantMay(t, r)
	}
}

// The chapter's example.
func TestExample(t *testing.T) {
	wantRight(t, gone(ax()), "\x02\x01\x01\x61\x01\x78")
}
