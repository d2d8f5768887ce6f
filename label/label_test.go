package label_test

import (
	"math"
	"math/rand/v2"
	"slices"
	"strings"
	"testing"

	"foghorn/api"
	"foghorn/label"
)

const (
	is, not, begins, has = 0, 1, 2, 3

	letters = "abcdefghijklmnopqrstuvwxyz"
	inValue = letters + "0123456789-"
)

// A seed that stays the same: a run that fails fails again.
func source() *rand.Rand {
	return rand.New(rand.NewPCG(20, 21))
}

// labels are of each two texts: a name, and its value.
func labels(texts ...string) []api.Label {
	var l []api.Label
	for i := 0; i < len(texts); i += 2 {
		l = append(l, api.Label{Name: texts[i], Value: texts[i+1]})
	}
	return l
}

func asks(kind int, name, value string) api.Matcher {
	return api.Matcher{Kind: kind, Name: name, Value: value}
}

func all(ms ...api.Matcher) []api.Matcher {
	return ms
}

// onlyOf asks byte by byte whether a text is least to 8 of those that may stand in it.
func onlyOf(text, these string, least int) bool {
	for i := range len(text) {
		if strings.IndexByte(these, text[i]) < 0 {
			return false
		}
	}
	return len(text) >= least && len(text) <= 8
}

func isName(text string) bool {
	return onlyOf(text, letters, 1)
}

func isValue(text string) bool {
	return onlyOf(text, inValue, 0)
}

// whySort is the error that the chapter asks of Sort, with each label held against each other one.
func whySort(l []api.Label) api.Errno {
	why := api.OK
	for i, one := range l {
		for _, other := range l[:i] {
			if one.Name == other.Name {
				why = api.ErrTwice
			}
		}
	}
	for _, one := range l {
		if !isName(one.Name) || !isValue(one.Value) {
			why = api.ErrArg
		}
	}
	if len(l) == 0 || len(l) > 3 {
		why = api.ErrArg
	}
	return why
}

// isLess is DOC.md's R5.
func isLess(a, b string) bool {
	for i := range min(len(a), len(b)) {
		if a[i] != b[i] {
			return a[i] < b[i]
		}
	}
	return len(a) < len(b)
}

func mayBe(l []api.Label) bool {
	rises := true
	for i := range max(len(l)-1, 0) {
		rises = rises && isLess(l[i].Name, l[i+1].Name)
	}
	return rises && whySort(l) == api.OK
}

func isMatcher(m api.Matcher) bool {
	return 0 <= m.Kind && m.Kind <= 3 && isName(m.Name) && isValue(m.Value) && (m.Kind != has || m.Value == "")
}

// matches is what the chapter says of one matcher.
func matches(m api.Matcher, l []api.Label) bool {
	if m.Kind == not {
		return !matches(asks(is, m.Name, m.Value), l)
	}
	for _, one := range l {
		if one.Name != m.Name {
			continue
		}
		n := len(m.Value)
		return m.Kind == is && one.Value == m.Value ||
			m.Kind == begins && len(one.Value) >= n && one.Value[:n] == m.Value ||
			m.Kind == has
	}
	return false
}

func matchAll(ms []api.Matcher, l []api.Label) bool {
	for _, m := range ms {
		if !matches(m, l) {
			return false
		}
	}
	return true
}

func wantRight(t *testing.T, l []api.Label, want bool) {
	t.Helper()
	if got := label.Right(l); got != want {
		t.Errorf("Right(%q) = %v", l, got)
	}
}

func sorted(t *testing.T, l []api.Label) []api.Label {
	t.Helper()
	row, why := label.Sort(l)
	if why != api.OK || len(row) != len(l) || !mayBe(row) {
		t.Fatalf("Sort(%q) = %q, %d", l, row, why)
	}
	for _, one := range l {
		if !slices.Contains(row, one) {
			t.Fatalf("Sort(%q) = %q, without %q", l, row, one)
		}
	}
	return row
}

func wantSortWhy(t *testing.T, l []api.Label, want api.Errno) {
	t.Helper()
	if row, why := label.Sort(l); len(row) != 0 || why != want {
		t.Errorf("Sort(%q) = %q, %d, want %d and nothing beside it", l, row, why, want)
	}
}

// wantSorted holds Sort against what the chapter says, whatever the labels.
func wantSorted(t *testing.T, l []api.Label) {
	t.Helper()
	if why := whySort(l); why != api.OK {
		wantSortWhy(t, l, why)
		return
	}
	sorted(t, l)
}

func wantMatcher(t *testing.T, m api.Matcher, want bool) {
	t.Helper()
	if got := label.Matcher(m); got != want {
		t.Errorf("Matcher(%+v) = %v", m, got)
	}
}

func wantAll(t *testing.T, ms []api.Matcher, l []api.Label, want bool) {
	t.Helper()
	if got, why := label.All(ms, l); got != want || why != api.OK {
		t.Errorf("All(%+v, %q) = %v, %d, want %v", ms, l, got, why, want)
	}
}

func wantNoAll(t *testing.T, ms []api.Matcher, l []api.Label) {
	t.Helper()
	if got, why := label.All(ms, l); got || why != api.ErrArg {
		t.Errorf("All(%+v, %q) = %v, %d, want %d and false beside it", ms, l, got, why, api.ErrArg)
	}
}

// oddBytes are texts that are no letter of names and none of values, of one byte and of more: also letters of other writings that look like those, or are made of their bytes, and bytes that are no letter of any writing.
func oddBytes() []string {
	return []string{
		" ", "_", "=", "!", "^", "?", ".", ",", "/", ":", "@", "`", "{", "[", "~", "\x00", "\n", "\t", "\x7f",
		"A", "B", "M", "Z",
		"ä", "é", "ß", "ſ", "ａ", "а", "α", "𝐚", "á", "\u212a", "\u0130", "\u0161", "\u017a", "１", "٣", "\u2013", "\u00ad", "\ufeff",
		"\x80", "\xff", "\xc3", "\xe1", "\xfa", "\xc1\xa1", "\xed\xa0\x80", "\xf0\x90", "\ufffd",
	}
}

// with are texts with one more text ahead, in the middle and behind, some of them as long as a text may be.
func with(odd string) []string {
	l := []string{odd, odd + "a", "a" + odd, "a" + odd + "b", "abc" + odd + "def", odd + odd}
	if fill := 8 - len(odd); fill > 0 {
		row := strings.Repeat("k", fill)
		l = append(l, odd+row, row[:fill/2]+odd+row[fill/2:], row+odd)
	}
	return l
}

func names() []string {
	return []string{"a", "b", "m", "z", "aa", "ab", "az", "zz", "abc", "zone", "abcdefg", "abcdefgh", "ijklmnop", "qrstuvwx", "yz", "aaaaaaaa", "zzzzzzzz"}
}

func noNames() []string {
	l := []string{"", "abcdefghi", "aaaaaaaaa", "abcdefghijklmnop", strings.Repeat("a", 256), strings.Repeat("a", 257), strings.Repeat("a", 264), strings.Repeat("a", 1<<16)}
	for _, odd := range append(oddBytes(), "0", "1", "5", "9", "-") {
		l = append(l, with(odd)...)
	}
	return l
}

func values() []string {
	return append(names(), "", "0", "9", "-", "--", "-a", "a-", "0a", "a0", "eu-1", "12345678", "0-9-a-z-", "--------", "90000000", "zzzzzzz9", "abc-0123")
}

func noValues() []string {
	l := []string{"abcdefghi", "123456789", "---------", "abcd-0123", strings.Repeat("-", 16), strings.Repeat("0", 256), strings.Repeat("a", 257), strings.Repeat("9", 1<<16)}
	for _, odd := range oddBytes() {
		l = append(l, with(odd)...)
	}
	return l
}

// among are labels with one of that name and value at each place of one, two and three, and also where the order that they would have puts it: so that, whatever the name, the rows that rise are among them.
func among(name, value string) [][]api.Label {
	one := labels(name, value)
	l := [][]api.Label{one}
	for _, others := range [][]api.Label{labels("f", "0"), labels("a", "x"), labels("zzzzzzzz", ""), labels("f", "0", "g", ""), labels("aa", "x", "zz", "y"), labels("y", "x", "yz", "y")} {
		for place := range len(others) + 1 {
			l = append(l, slices.Insert(slices.Clone(others), place, one...))
		}
	}
	return l
}

// orders calls with each order of a list.
func orders(l []api.Label, from int, call func([]api.Label)) {
	if from >= len(l) {
		call(l)
		return
	}
	for i := from; i < len(l); i++ {
		l[from], l[i] = l[i], l[from]
		orders(l, from+1, call)
		l[from], l[i] = l[i], l[from]
	}
}

// rows are all labels of one to three of few names, rising, and few values.
func rows() [][]api.Label {
	var l [][]api.Label
	few := []string{"a", "ab", "b"}
	for chosen := 1; chosen < 1<<len(few); chosen++ {
		some := [][]api.Label{nil}
		for i, name := range few {
			if chosen>>i&1 == 0 {
				continue
			}
			var more [][]api.Label
			for _, row := range some {
				for _, value := range fewValues() {
					more = append(more, append(slices.Clone(row), labels(name, value)...))
				}
			}
			some = more
		}
		l = append(l, some...)
	}
	return l
}

func fewValues() []string {
	return []string{"", "x", "xy", "y", "x-1"}
}

// fewMatchers are all of each kind, and of few names, one of which no row has, and few values, some of which none has.
func fewMatchers() []api.Matcher {
	var ms []api.Matcher
	for _, name := range []string{"a", "ab", "b", "c"} {
		for _, value := range append(fewValues(), "x-", "x-12", "-") {
			ms = append(ms, asks(is, name, value), asks(not, name, value), asks(begins, name, value))
		}
		ms = append(ms, asks(has, name, ""))
	}
	return ms
}

func noMatchers() []api.Matcher {
	return all(
		asks(-1, "a", "x"), asks(4, "a", "x"), asks(5, "a", ""), asks(-1, "a", ""), asks(math.MinInt, "a", ""), asks(math.MaxInt, "a", ""),
		asks(is, "", "x"), asks(not, "", "x"), asks(begins, "", "x"), asks(has, "", ""),
		asks(is, "A", "x"), asks(not, "a1", "x"), asks(begins, "abcdefghi", "x"), asks(has, "ä", ""),
		asks(is, "a", "X"), asks(not, "a", "abcdefghi"), asks(begins, "a", "x_"), asks(has, "a", "x"), asks(has, "b", "0"), asks(has, "a", "X"),
		asks(is, "", ""), asks(4, "", ""), asks(is, "a", "\xff"), asks(-1, "", "\xff"), asks(1<<32, "a", "x"), asks(1<<32+2, "a", "x"), asks(256, "a", "x"),
	)
}

func noLabels() [][]api.Label {
	return [][]api.Label{
		nil, {},
		labels("a", "x", "b", "x", "c", "x", "d", "x"),
		labels("a", "x", "a", "x"), labels("a", "x", "a", "y"), labels("b", "x", "a", "x"), labels("a", "x", "b", "x", "b", "x"),
		labels("", "x"), labels("", ""), labels("A", "x"), labels("a", "X"), labels("a", "abcdefghi"), labels("a", "x", "b", "x", "c", "\xff"),
	}
}

// The limits and the kinds are those that api names.
func TestLimits(t *testing.T) {
	if api.MaxLabels != 3 || api.MaxName != 8 || api.MaxAsked != 4 {
		t.Fatalf("MaxLabels %d, MaxName %d, MaxAsked %d", api.MaxLabels, api.MaxName, api.MaxAsked)
	}
	if api.MIs != is || api.MNot != not || api.MBegins != begins || api.MHas != has {
		t.Fatalf("MIs %d, MNot %d, MBegins %d, MHas %d", api.MIs, api.MNot, api.MBegins, api.MHas)
	}
}

// P10.1 and R3: Right, by how many there are: 1 to 3.
func TestRightByLength(t *testing.T) {
	row := labels("a", "0", "b", "1", "c", "2", "d", "3", "e", "4", "f", "5")
	for n := range len(row) + 1 {
		wantRight(t, row[:n], n >= 1 && n <= 3)
		wantRight(t, slices.Clone(row[:n]), n >= 1 && n <= 3)
	}
	wantRight(t, nil, false)
	wantRight(t, []api.Label{}, false)
	wantRight(t, make([]api.Label, 1), false)
	wantRight(t, slices.Repeat(labels("a", "x"), 1000), false)
}

// P10.1: Right, by one label's name, at each place, in rows that would rise and in others.
func TestRightByName(t *testing.T) {
	for _, name := range names() {
		for _, value := range []string{"", "x", "eu-1"} {
			wantRight(t, labels(name, value), true)
			for _, l := range among(name, value) {
				wantRight(t, l, mayBe(l))
			}
		}
	}
	for _, name := range noNames() {
		for _, value := range []string{"", "x", "eu-1"} {
			for _, l := range among(name, value) {
				wantRight(t, l, false)
			}
		}
	}
}

// P10.1: Right, by one label's value, at each place.
func TestRightByValue(t *testing.T) {
	for _, name := range []string{"a", "b", "g", "zzz"} {
		for _, value := range values() {
			wantRight(t, labels(name, value), true)
			for _, l := range among(name, value) {
				wantRight(t, l, mayBe(l))
			}
		}
		for _, value := range noValues() {
			for _, l := range among(name, value) {
				wantRight(t, l, false)
			}
		}
	}
	for _, l := range [][]api.Label{
		labels("a", "X", "b", "x", "c", "x"),
		labels("a", "x", "b", "X", "c", "x"),
		labels("a", "x", "b", "x", "c", "X"),
	} {
		wantRight(t, l, false)
	}
	wantRight(t, labels("a", "12345678", "b", "", "c", "-"), true)
}

// P10.1: each byte there is, alone, and at each place of a text of 2, 3 and 8: in a name, and in a value.
func TestEachByte(t *testing.T) {
	for b := range 256 {
		for _, n := range []int{1, 2, 3, 8} {
			for place := range n {
				bytes := []byte(strings.Repeat("q", n))
				bytes[place] = byte(b)
				text := string(bytes)
				isLetter := strings.IndexByte(letters, byte(b)) >= 0
				mayStand := strings.IndexByte(inValue, byte(b)) >= 0
				wantRight(t, labels(text, ""), isLetter)
				wantRight(t, labels("a", text), mayStand)
				for _, kind := range []int{is, not, begins} {
					wantMatcher(t, asks(kind, text, "x"), isLetter)
					wantMatcher(t, asks(kind, "a", text), mayStand)
				}
				wantMatcher(t, asks(has, text, ""), isLetter)
				wantSorted(t, labels(text, ""))
				wantSorted(t, labels("a", text))
			}
		}
	}
}

// P10.1: texts of each length up to 20: names of 1 to 8, values of 0 to 8.
func TestEachLength(t *testing.T) {
	for n := range 21 {
		for _, letter := range []string{"a", "z"} {
			text := strings.Repeat(letter, n)
			wantRight(t, labels(text, ""), n >= 1 && n <= 8)
			wantRight(t, labels("a", text), n <= 8)
			wantMatcher(t, asks(has, text, ""), n >= 1 && n <= 8)
			wantMatcher(t, asks(is, "a", text), n <= 8)
			wantSorted(t, labels(text, ""))
			wantSorted(t, labels("a", text))
		}
		for _, letter := range []string{"0", "9", "-"} {
			wantRight(t, labels("a", strings.Repeat(letter, n)), n <= 8)
		}
		// Few letters, but of two bytes each.
		wantRight(t, labels(strings.Repeat("ä", n), ""), false)
		wantRight(t, labels("a", strings.Repeat("ä", n)), n == 0)
	}
}

// P10.1: Right, by the order of names: rising, falling, the same, and one the beginning of the next one. The values do not count.
func TestRightByOrder(t *testing.T) {
	for _, c := range []struct {
		l    []api.Label
		want bool
	}{
		{labels("a", "x", "b", "x"), true},
		{labels("a", "y", "b", "x"), true},
		{labels("b", "x", "a", "x"), false},
		{labels("b", "x", "a", "y"), false},
		{labels("a", "x", "a", "x"), false},
		{labels("a", "x", "a", "y"), false},
		{labels("a", "y", "a", "x"), false},
		{labels("a", "", "a", "x"), false},
		{labels("a", "x", "ab", "x"), true},
		{labels("ab", "x", "a", "x"), false},
		{labels("a", "x", "aa", "x"), true},
		{labels("aa", "x", "a", "x"), false},
		{labels("abcdefg", "", "abcdefgh", ""), true},
		{labels("abcdefgh", "", "abcdefg", ""), false},
		{labels("az", "x", "b", "x"), true},
		{labels("b", "x", "az", "x"), false},
		{labels("zzzzzzzz", "x", "a", "x"), false},
		{labels("aaaaaaaa", "x", "b", "x"), true},
		{labels("abcdefgh", "x", "abcdefgi", "x"), true},
		{labels("abcdefgi", "x", "abcdefgh", "x"), false},
		{labels("bba", "x", "bab", "x"), false},
		{labels("a", "x", "b", "x", "c", "x"), true},
		{labels("a", "z", "b", "y", "c", "x"), true},
		{labels("a", "x", "c", "x", "b", "x"), false},
		{labels("b", "x", "a", "x", "c", "x"), false},
		{labels("c", "x", "b", "x", "a", "x"), false},
		{labels("b", "x", "c", "x", "a", "x"), false},
		{labels("a", "x", "a", "x", "b", "x"), false},
		{labels("a", "x", "b", "x", "b", "y"), false},
		{labels("a", "x", "b", "x", "a", "x"), false},
		{labels("a", "x", "a", "x", "a", "x"), false},
		{labels("a", "x", "ab", "x", "abc", "x"), true},
		{labels("a", "x", "abc", "x", "ab", "x"), false},
		{labels("ab", "x", "abc", "x", "a", "x"), false},
	} {
		wantRight(t, c.l, c.want)
	}
}

// P10.1: Right and Sort of each two and each three of some names.
func TestEachThree(t *testing.T) {
	few := []string{"a", "b", "aa", "ab", "ba", "aaa", "z", "zz", "zaaaaaaa", "", "A", "a1", "\xff"}
	for i, one := range few {
		for j, two := range few {
			wantRight(t, labels(one, "x", two, "x"), mayBe(labels(one, "x", two, "x")))
			wantSorted(t, labels(one, "x", two, "y"))
			for _, three := range few {
				l := labels(one, "0", two, "1", three, few[(i+j)%9])
				wantRight(t, l, mayBe(l))
				wantSorted(t, l)
			}
		}
	}
}

// P10.1, R2 and R3: Sort: ErrArg of none, and of more than 3, also where two have one Name.
func TestSortByLength(t *testing.T) {
	wantSortWhy(t, nil, api.ErrArg)
	wantSortWhy(t, []api.Label{}, api.ErrArg)
	row := labels("a", "0", "b", "1", "c", "2", "d", "3", "e", "4", "f", "5")
	for n := range len(row) + 1 {
		if n >= 1 && n <= 3 {
			if got := sorted(t, row[:n]); !slices.Equal(got, row[:n]) {
				t.Errorf("Sort(%q) = %q", row[:n], got)
			}
			continue
		}
		wantSortWhy(t, row[:n], api.ErrArg)
		wantSortWhy(t, slices.Clone(row[:n]), api.ErrArg)
	}
	orders(labels("a", "x", "b", "x", "c", "x", "d", "x"), 0, func(l []api.Label) {
		wantSortWhy(t, l, api.ErrArg)
	})
	orders(labels("a", "x", "b", "x", "c", "x", "a", "x"), 0, func(l []api.Label) {
		wantSortWhy(t, l, api.ErrArg)
	})
	for n := 4; n < 40; n++ {
		wantSortWhy(t, slices.Repeat(labels("a", "x"), n), api.ErrArg)
	}
	wantSortWhy(t, slices.Repeat(labels("a", "x"), 1000), api.ErrArg)
}

// P10.1: Sort: ErrArg of one that has no name, or no value, wherever it stands.
func TestSortOfNoLabels(t *testing.T) {
	for _, name := range noNames() {
		for _, l := range among(name, "x") {
			wantSortWhy(t, l, api.ErrArg)
		}
	}
	for _, value := range noValues() {
		for _, l := range among("g", value) {
			wantSortWhy(t, l, api.ErrArg)
		}
	}
	wantSortWhy(t, labels("", ""), api.ErrArg)
	wantSortWhy(t, labels("", "X"), api.ErrArg)
}

// P10.1: Sort: ErrTwice, where two have one Name, side by side and apart, be the values the same or not.
func TestSortTwice(t *testing.T) {
	for _, name := range names() {
		for _, c := range [][2]string{{"x", "x"}, {"x", "y"}, {"y", "x"}, {"", "x"}, {"x", ""}, {"", ""}, {"x", "xy"}} {
			wantSortWhy(t, labels(name, c[0], name, c[1]), api.ErrTwice)
			for _, other := range []string{"ac", "n", "zzzz"} {
				orders(labels(name, c[0], name, c[1], other, "x"), 0, func(l []api.Label) {
					wantSortWhy(t, l, api.ErrTwice)
				})
			}
			orders(labels(name, c[0], name, c[1], name, "9"), 0, func(l []api.Label) {
				wantSortWhy(t, l, api.ErrTwice)
			})
		}
	}
}

// P10.1: Sort: ErrArg ahead of ErrTwice, where both apply.
func TestSortOfNoLabelsTwice(t *testing.T) {
	for _, l := range [][]api.Label{
		labels("a", "x", "a", "X"),
		labels("a", "X", "a", "X"),
		labels("A", "x", "A", "x"),
		labels("", "x", "", "x"),
		labels("", "", "", "", "", ""),
		labels("a", "x", "a", "x", "B", "x"),
		labels("a", "x", "a", "x", "b", "X"),
		labels("a", "x", "a", "x", "", ""),
		labels("a", "abcdefghi", "b", "x", "b", "x"),
		labels("\xff", "x", "\xff", "x", "a", "x"),
		labels("a", "x", "a", "x", "a", "x", "a", "x"),
		labels("a", "x", "a", "y", "b", "x", "c", "x"),
	} {
		orders(l, 0, func(l []api.Label) {
			wantSortWhy(t, l, api.ErrArg)
		})
	}
}

// P10.1 and P10.3: Sort of every order of one, two and three: all of them, rising; that may be, is told again as it is, and does not hang on the order ahead.
func TestSort(t *testing.T) {
	for _, want := range [][]api.Label{
		labels("a", "x"),
		labels("abcdefgh", "eu-1-abc"),
		labels("a", "x", "b", "y"),
		labels("a", "z", "b", "y"),
		labels("a", "x", "ab", "x"),
		labels("ab", "", "b", ""),
		labels("abcdefg", "1", "abcdefgh", "0"),
		labels("a", "x", "b", "y", "c", "z"),
		labels("a", "z", "b", "y", "c", "x"),
		labels("a", "", "ab", "", "abc", ""),
		labels("a", "2", "ab", "1", "b", "0"),
		labels("aaaaaaaa", "-", "aaaaaaab", "-", "b", "-"),
		labels("y", "x", "z", "x", "zz", "x"),
		labels("app", "db", "host", "12345678", "zone", "eu-1"),
	} {
		orders(slices.Clone(want), 0, func(l []api.Label) {
			got := sorted(t, l)
			if !slices.Equal(got, want) {
				t.Errorf("Sort(%q) = %q, want %q", l, got, want)
			}
			wantRight(t, got, true)
			if again := sorted(t, got); !slices.Equal(again, got) {
				t.Errorf("Sort(%q) = %q", got, again)
			}
			wantRight(t, l, slices.Equal(l, want))
		})
	}
}

// someText is of up to 8 of those letters, most often a short one.
func someText(r *rand.Rand, of string, least int) string {
	bytes := make([]byte, least+r.IntN(9-least)/(1+r.IntN(8)))
	for i := range bytes {
		bytes[i] = of[r.IntN(len(of))]
	}
	return string(bytes)
}

// P10.3: labels of any names: once sorted they may be, and their order ahead does not matter.
func TestSortOfMany(t *testing.T) {
	r := source()
	for range 3000 {
		var l []api.Label
		of := letters[:2+r.IntN(25)]
		for range 1 + r.IntN(3) {
			l = append(l, api.Label{Name: someText(r, of, 1), Value: someText(r, inValue, 0)})
		}
		if whySort(l) != api.OK {
			wantSorted(t, l)
			continue
		}
		want := sorted(t, l)
		wantRight(t, want, true)
		orders(l, 0, func(l []api.Label) {
			if got := sorted(t, l); !slices.Equal(got, want) {
				t.Errorf("Sort(%q) = %q, want %q", l, got, want)
			}
		})
	}
}

// P10.1: Matcher, by its Kind: 0 to 3.
func TestMatcherByKind(t *testing.T) {
	for kind := -300; kind <= 300; kind++ {
		wantMatcher(t, asks(kind, "a", ""), 0 <= kind && kind <= 3)
		wantMatcher(t, asks(kind, "a", "x"), 0 <= kind && kind <= 2)
	}
	for _, kind := range []int{math.MinInt, math.MinInt + 1, -1 << 32, 1 << 8, 1 << 16, 1 << 32, 1<<32 + 1, 1<<32 + 2, 1<<32 + 3, math.MaxInt - 1, math.MaxInt} {
		wantMatcher(t, asks(kind, "a", ""), false)
		wantMatcher(t, asks(kind, "a", "x"), false)
		wantNoAll(t, all(asks(kind, "a", "")), labels("a", "x"))
	}
	wantMatcher(t, api.Matcher{}, false)
}

// P10.1: Matcher, by its Name and its Value, of each kind: that of MHas is empty.
func TestMatcherByTexts(t *testing.T) {
	for kind := -1; kind <= 4; kind++ {
		isKind := 0 <= kind && kind <= 3
		for _, name := range names() {
			for _, value := range values() {
				wantMatcher(t, asks(kind, name, value), isKind && (kind != has || value == ""))
			}
		}
		for _, name := range noNames() {
			wantMatcher(t, asks(kind, name, ""), false)
			wantMatcher(t, asks(kind, name, "x"), false)
			wantMatcher(t, asks(kind, name, "X"), false)
		}
		for _, value := range noValues() {
			wantMatcher(t, asks(kind, "a", value), false)
			wantMatcher(t, asks(kind, "abcdefgh", value), false)
			wantMatcher(t, asks(kind, "", value), false)
		}
	}
	for _, m := range noMatchers() {
		wantMatcher(t, m, false)
	}
}

// P10.2: All: ErrArg of labels that may not be, whatever the matchers are, and false beside it.
func TestAllOfNoLabels(t *testing.T) {
	for _, l := range noLabels() {
		wantNoAll(t, nil, l)
		wantNoAll(t, []api.Matcher{}, l)
		for _, m := range append(noMatchers(), asks(is, "a", "x"), asks(not, "a", "x"), asks(begins, "a", ""), asks(has, "a", ""), asks(not, "z", "")) {
			wantNoAll(t, all(m), l)
			wantNoAll(t, slices.Repeat(all(m), 4), l)
			wantNoAll(t, slices.Repeat(all(m), 5), l)
		}
	}
	// Labels that would be matched, but for one that has no name, no value, or the same Name.
	for _, bad := range [][]api.Label{labels("B", "x"), labels("b", "X"), labels("a", "x"), labels("", ""), labels("\xff", "")} {
		wantNoAll(t, all(asks(is, "a", "x")), append(labels("a", "x"), bad...))
		wantNoAll(t, all(asks(is, "a", "x")), append(bad, labels("a", "x")...))
	}
}

// P10.2: All: ErrArg of more than 4 matchers, whether they match or not; 4 are asked.
func TestAllByLength(t *testing.T) {
	l := labels("a", "x", "b", "y")
	for n := range 40 {
		matching, other := slices.Repeat(all(asks(is, "a", "x")), n), slices.Repeat(all(asks(is, "a", "y")), n)
		if n > 4 {
			wantNoAll(t, matching, l)
			wantNoAll(t, other, l)
			continue
		}
		wantAll(t, matching, l, true)
		wantAll(t, other, l, n == 0)
	}
	five := slices.Repeat(all(asks(has, "b", "")), 5)
	wantAll(t, five[:4], l, true)
	wantNoAll(t, five, l)
	wantNoAll(t, make([]api.Matcher, 1<<16), l)
}

// P10.2: All: ErrArg of one matcher that may not be, wherever it stands, be the others matching or not.
func TestAllOfNoMatchers(t *testing.T) {
	l := labels("a", "x", "b", "y")
	for _, bad := range noMatchers() {
		for _, other := range all(asks(is, "a", "x"), asks(is, "a", "y"), asks(not, "a", "x"), asks(has, "b", ""), asks(has, "c", "")) {
			for n := 1; n <= 5; n++ {
				for place := range n {
					ms := slices.Repeat(all(other), n)
					ms[place] = bad
					wantNoAll(t, ms, l)
				}
			}
		}
	}
}

// P10.2: each kind, with a Name that the labels have and with one that they do not have, at each place of the labels.
func TestAllByKind(t *testing.T) {
	for _, c := range []struct {
		m    api.Matcher
		want bool
	}{
		{asks(is, "k", "abc"), true},
		{asks(is, "k", "abd"), false},
		{asks(is, "k", "ab"), false},
		{asks(is, "k", "bc"), false},
		{asks(is, "k", "abcd"), false},
		{asks(is, "k", ""), false},
		{asks(is, "kk", "abc"), false},
		{asks(is, "q", "abc"), false},
		{asks(not, "k", "abc"), false},
		{asks(not, "k", "abd"), true},
		{asks(not, "k", "ab"), true},
		{asks(not, "k", "bc"), true},
		{asks(not, "k", "abcd"), true},
		{asks(not, "k", ""), true},
		{asks(not, "kk", "abc"), true},
		{asks(not, "q", "abc"), true},
		{asks(not, "q", ""), true},
		{asks(begins, "k", ""), true},
		{asks(begins, "k", "a"), true},
		{asks(begins, "k", "ab"), true},
		{asks(begins, "k", "abc"), true},
		{asks(begins, "k", "abcd"), false},
		{asks(begins, "k", "b"), false},
		{asks(begins, "k", "bc"), false},
		{asks(begins, "k", "c"), false},
		{asks(begins, "k", "abd"), false},
		{asks(begins, "kk", ""), false},
		{asks(begins, "q", "a"), false},
		{asks(begins, "q", ""), false},
		{asks(has, "k", ""), true},
		{asks(has, "kk", ""), false},
		{asks(has, "q", ""), false},
	} {
		for _, l := range [][]api.Label{
			labels("k", "abc"),
			labels("k", "abc", "z", ""),
			labels("a", "", "k", "abc"),
			labels("a", "ab", "k", "abc", "z", "abd"),
			labels("k", "abc", "y", "abcd", "z", "b"),
			labels("a", "abcd", "b", "ab", "k", "abc"),
		} {
			wantAll(t, all(c.m), l, c.want)
		}
	}
}

// P10.2: of labels with an empty value.
func TestAllOfAnEmptyValue(t *testing.T) {
	for _, l := range [][]api.Label{labels("k", ""), labels("a", "x", "k", ""), labels("k", "", "z", "x")} {
		wantAll(t, all(asks(is, "k", "")), l, true)
		wantAll(t, all(asks(is, "k", "x")), l, false)
		wantAll(t, all(asks(not, "k", "")), l, false)
		wantAll(t, all(asks(not, "k", "x")), l, true)
		wantAll(t, all(asks(begins, "k", "")), l, true)
		wantAll(t, all(asks(begins, "k", "x")), l, false)
		wantAll(t, all(asks(has, "k", "")), l, true)
	}
}

// P10.2: several matchers, of which all, the first alone, the last alone, and none match.
func TestAllOfSeveral(t *testing.T) {
	l := labels("a", "db", "z", "eu-1")
	yes := all(asks(is, "a", "db"), asks(not, "z", "eu-2"), asks(begins, "z", "eu"), asks(has, "a", ""))
	no := all(asks(is, "a", "web"), asks(not, "z", "eu-1"), asks(begins, "z", "us"), asks(has, "b", ""))
	wantAll(t, nil, l, true)
	wantAll(t, []api.Matcher{}, l, true)
	wantAll(t, yes, l, true)
	wantAll(t, no, l, false)
	for chosen := range 1 << 8 {
		var ms []api.Matcher
		want := true
		for i := range 4 {
			switch chosen >> (2 * i) & 3 {
			case 1:
				ms = append(ms, yes[i])
			case 2:
				ms, want = append(ms, no[i]), false
			case 3:
				ms, want = append(ms, no[3-i]), false
			}
		}
		wantAll(t, ms, l, want)
		slices.Reverse(ms)
		wantAll(t, ms, l, want)
	}
	for i := range yes {
		for j := range no {
			wantAll(t, all(yes[i], no[j]), l, false)
			wantAll(t, all(no[j], yes[i]), l, false)
			wantAll(t, all(yes[i], no[j], yes[j]), l, false)
			wantAll(t, all(no[j], no[i]), l, false)
			wantAll(t, all(yes[i], yes[j]), l, true)
		}
	}
}

// P10.2: no matcher matches all labels; each one of few matches as the chapter says, and each two together.
func TestAllOfFew(t *testing.T) {
	few := fewMatchers()
	for _, l := range rows() {
		wantRight(t, l, true)
		wantAll(t, nil, l, true)
		for i, m := range few {
			wantAll(t, all(m), l, matches(m, l))
			other := few[(i*7+len(l)*3)%len(few)]
			wantAll(t, all(m, other), l, matches(m, l) && matches(other, l))
		}
	}
}

// P10.2 and P10.3: up to four of any matchers; with one more, wherever it stands, they match only where they do without it.
func TestMoreMatchLess(t *testing.T) {
	r := source()
	few, rows := fewMatchers(), rows()
	both := 0
	for range 20000 {
		l := rows[r.IntN(len(rows))]
		var ms []api.Matcher
		for range r.IntN(4) {
			ms = append(ms, few[r.IntN(len(few))])
		}
		more := slices.Insert(slices.Clone(ms), r.IntN(len(ms)+1), few[r.IntN(len(few))])
		wantAll(t, ms, l, matchAll(ms, l))
		wantAll(t, more, l, matchAll(more, l))
		less, _ := label.All(ms, l)
		least, _ := label.All(more, l)
		if least && !less {
			t.Errorf("of %q: %+v match, but %+v do not", l, more, ms)
		}
		if least && less {
			both++
		}
	}
	if both < 1000 {
		t.Errorf("of all of these only %d match", both)
	}
}

// isAlone is what All tells of one matcher.
func isAlone(t *testing.T, m api.Matcher, l []api.Label) bool {
	t.Helper()
	got, why := label.All(all(m), l)
	if why != api.OK {
		t.Fatalf("All(%+v, %q) = %v, %d", m, l, got, why)
	}
	return got
}

// P10.3: of one name and value just one of MIs and MNot matches, and never both together; what is MIs is MBegins, and what is that is MHas.
func TestKindsFollow(t *testing.T) {
	for _, l := range rows() {
		for _, name := range []string{"a", "ab", "b", "c", "aa"} {
			for _, value := range append(fewValues(), "x-", "x-12", "z") {
				isIt, isNot := isAlone(t, asks(is, name, value), l), isAlone(t, asks(not, name, value), l)
				begun, there := isAlone(t, asks(begins, name, value), l), isAlone(t, asks(has, name, ""), l)
				if isIt == isNot || isIt && !begun || begun && !there {
					t.Errorf("%q, %s and %s: MIs %v, MNot %v, MBegins %v, MHas %v", l, name, value, isIt, isNot, begun, there)
				}
				wantAll(t, all(asks(is, name, value), asks(not, name, value)), l, false)
				if isAlone(t, asks(begins, name, ""), l) != there {
					t.Errorf("%q, %s: MBegins of nothing is not MHas", l, name)
				}
			}
		}
	}
}

// P10.2: the chapter's example.
func TestExample(t *testing.T) {
	wantAll(t, all(asks(begins, "z", "eu"), asks(not, "a", "web")), labels("a", "db", "z", "eu-1"), true)
	wantAll(t, all(asks(begins, "z", "eu"), asks(not, "a", "db")), labels("a", "db", "z", "eu-1"), false)
	wantAll(t, all(asks(begins, "z", "us"), asks(not, "a", "web")), labels("a", "db", "z", "eu-1"), false)
}

// P1: no call panics and each ends, at long texts, long lists, and the least and the greatest numbers.
func TestNothingPanics(t *testing.T) {
	texts := []string{"", "a", "-", "A", "\x00", "\xff", "\xc3", "\xf0\x9f", "abcdefgh", "abcdefghi", strings.Repeat("a", 1<<20), strings.Repeat("\xff", 1<<20)}
	for _, name := range texts {
		for _, value := range texts {
			l := labels(name, value)
			wantRight(t, l, mayBe(l))
			wantSorted(t, l)
			wantSorted(t, append(l, l...))
			for _, kind := range []int{math.MinInt, -1, 0, 1, 2, 3, 4, math.MaxInt} {
				m := asks(kind, name, value)
				wantMatcher(t, m, isMatcher(m))
				if isMatcher(m) && mayBe(l) {
					wantAll(t, all(m), l, matches(m, l))
				} else {
					wantNoAll(t, all(m), l)
				}
			}
		}
	}
	long := make([]api.Label, 1<<20)
	wantRightOfLong(t, long)
	wantRightOfLong(t, slices.Repeat(labels("a", "x"), 1<<20))
	if got, why := label.All(make([]api.Matcher, 1<<20), labels("a", "x")); got || why != api.ErrArg {
		t.Errorf("All of 2^20 matchers: %v, %d", got, why)
	}
}

func wantRightOfLong(t *testing.T, l []api.Label) {
	t.Helper()
	if label.Right(l) {
		t.Errorf("Right of %d = true", len(l))
	}
	if row, why := label.Sort(l); len(row) != 0 || why != api.ErrArg {
		t.Errorf("Sort of %d: %d of them, %d", len(l), len(row), why)
	}
	if got, why := label.All(nil, l); got || why != api.ErrArg {
		t.Errorf("All of %d: %v, %d", len(l), got, why)
	}
}

// P10.3 and R4: no call changes the list that it was handed, nor what lies behind its end, and what does is not asked either.
func TestListsStay(t *testing.T) {
	matchers := [][]api.Matcher{nil, {}, fewMatchers()[:4], fewMatchers()[10:13], noMatchers()[:3], noMatchers(), all(asks(has, "b", ""), asks(is, "a", "x"), asks(begins, "a", ""))}
	lists := append(noLabels(), labels("b", "x", "a", "y"), labels("c", "x", "b", "x", "a", "x"), labels("b", "x", "c", "y", "a", "z"), labels("a", "x"), labels("a", "x", "b", "x", "c", "x"), labels("b", "y", "b", "x", "a", ""))
	tail, more := labels("B", "X", "", "", "a", "x"), all(asks(-1, "A", "X"), asks(9, "", ""), asks(is, "a", "z"))
	for _, row := range lists {
		for _, ms := range matchers {
			longL, longM := slices.Concat(row, tail), slices.Concat(ms, more)
			l, m := longL[:len(row)], longM[:len(ms)]
			wantRight(t, l, mayBe(row))
			wantSorted(t, l)
			for _, one := range m {
				label.Matcher(one)
			}
			if !mayBe(row) || len(m) > 4 || slices.ContainsFunc(m, func(one api.Matcher) bool { return !isMatcher(one) }) {
				wantNoAll(t, m, l)
			} else {
				wantAll(t, m, l, matchAll(ms, row))
			}
			if !slices.Equal(longL, slices.Concat(row, tail)) || !slices.Equal(longM, slices.Concat(ms, more)) {
				t.Fatalf("%q and %+v were handed, and became %q and %+v", row, ms, longL, longM)
			}
		}
	}
}

// P10.3: what Sort answers shares nothing with what was handed: whoever writes to one does not change the other.
func TestSortIsNew(t *testing.T) {
	for _, row := range [][]api.Label{labels("a", "x"), labels("a", "x", "b", "y"), labels("b", "x", "a", "y"), labels("a", "x", "b", "y", "c", "z"), labels("c", "x", "a", "y", "b", "z")} {
		handed := slices.Concat(row, labels("z", "9", "zz", "9"))[:len(row)]
		got, again := sorted(t, handed), sorted(t, handed)
		for _, l := range [][]api.Label{got[:cap(got)], handed[:cap(handed)]} {
			for i := range l {
				l[i] = api.Label{Name: "spoilt", Value: "9"}
			}
			if !mayBe(again) || len(again) != len(row) {
				t.Fatalf("Sort(%q) was told, and became %q", row, again)
			}
		}
		kept := slices.Clone(row)
		l := sorted(t, row)
		clear(l[:cap(l)])
		if !slices.Equal(row, kept) {
			t.Fatalf("Sort shares %q with its answer", row)
		}
	}
}

// R1: a call answers the same, whatever was called ahead of it.
func TestNothingIsKept(t *testing.T) {
	l, mixed := labels("a", "db", "z", "eu-1"), labels("z", "eu-1", "a", "db")
	ms := all(asks(begins, "z", "eu"), asks(not, "a", "web"))
	for range 3 {
		wantRight(t, l, true)
		wantNoAll(t, all(asks(4, "a", "")), l)
		wantAll(t, ms, l, true)
		wantAll(t, all(asks(is, "a", "web")), l, false)
		wantSortWhy(t, labels("a", "x", "a", "x"), api.ErrTwice)
		if got := sorted(t, mixed); !slices.Equal(got, l) {
			t.Errorf("Sort(%q) = %q", mixed, got)
		}
		wantRight(t, mixed, false)
		wantSortWhy(t, nil, api.ErrArg)
		wantMatcher(t, asks(has, "a", ""), true)
		wantMatcher(t, asks(has, "a", "x"), false)
		wantNoAll(t, ms, mixed)
	}
}
