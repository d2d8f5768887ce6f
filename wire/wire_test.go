package wire_test

import (
	"math"
	"math/big"
	"math/rand/v2"
	"slices"
	"strconv"
	"strings"
	"testing"

	"foghorn/api"
	"foghorn/wire"
)

const (
	is, not, begins, has = 0, 1, 2, 3
	fires, isDone, quiet = 0, 1, 2

	last = 1 << 40

	letters = "abcdefghijklmnopqrstuvwxyz"
	inValue = letters + "0123456789-"
)

// A seed that stays the same: a run that fails fails again.
func source() *rand.Rand {
	return rand.New(rand.NewPCG(24, 25))
}

// labels are of each two texts: a name, and its value.
func labels(texts ...string) []api.Label {
	var l []api.Label
	for i := 0; i < len(texts); i += 2 {
		l = append(l, api.Label{Name: texts[i], Value: texts[i+1]})
	}
	return l
}

func asks(kind int, name, value string) api.Matcher {
	return api.Matcher{Kind: kind, Name: name, Value: value}
}

func all(ms ...api.Matcher) []api.Matcher {
	return ms
}

func alert(kind int, l []api.Label) api.Msg {
	return api.Msg{Kind: kind, Labels: l}
}

func hush(from, to int, ms ...api.Matcher) api.Msg {
	return api.Msg{Kind: quiet, Hush: api.Hush{From: from, To: to, Asked: ms}}
}

// isSame holds a nil list for an empty one.
func isSame(a, b api.Msg) bool {
	return a.Kind == b.Kind && slices.Equal(a.Labels, b.Labels) && a.Hush.From == b.Hush.From && a.Hush.To == b.Hush.To && slices.Equal(a.Hush.Asked, b.Hush.Asked)
}

// onlyOf asks byte by byte whether a text is least to 8 of those that may stand in it.
func onlyOf(text, these string, least int) bool {
	for i := range len(text) {
		if strings.IndexByte(these, text[i]) < 0 {
			return false
		}
	}
	return len(text) >= least && len(text) <= 8
}

func isName(text string) bool {
	return onlyOf(text, letters, 1)
}

func isValue(text string) bool {
	return onlyOf(text, inValue, 0)
}

func isMatcher(m api.Matcher) bool {
	return 0 <= m.Kind && m.Kind <= 3 && isName(m.Name) && isValue(m.Value) && (m.Kind != has || m.Value == "")
}

func isLabel(one api.Label) bool {
	return isName(one.Name) && isValue(one.Value)
}

// whyLabels is the error of labels in any order, with each held against each other one.
func whyLabels(l []api.Label) api.Errno {
	why := api.OK
	for i, one := range l {
		for _, other := range l[:i] {
			if one.Name == other.Name {
				why = api.ErrTwice
			}
		}
	}
	for _, one := range l {
		if !isLabel(one) {
			why = api.ErrArg
		}
	}
	if len(l) == 0 || len(l) > 3 {
		why = api.ErrArg
	}
	return why
}

func areLabels(l []api.Label) bool {
	rises := true
	for i := range max(len(l)-1, 0) {
		rises = rises && l[i].Name < l[i+1].Name
	}
	return rises && whyLabels(l) == api.OK
}

// mayBe is what the chapter says of a message.
func mayBe(m api.Msg) bool {
	h := m.Hush
	switch m.Kind {
	case fires, isDone:
		return areLabels(m.Labels) && h.From == 0 && h.To == 0 && len(h.Asked) == 0
	case quiet:
		may := len(m.Labels) == 0 && 0 <= h.From && h.From < h.To && h.To <= last && 1 <= len(h.Asked) && len(h.Asked) <= 4
		for _, one := range h.Asked {
			may = may && isMatcher(one)
		}
		return may
	}
	return false
}

// textOfMatcher is what stands in a message, of matchers that may be.
func textOfMatcher(m api.Matcher) string {
	return m.Name + "=!^?"[m.Kind:m.Kind+1] + m.Value
}

// textOf is what the chapter says of a message that may be.
func textOf(m api.Msg) string {
	text := []string{"fire", "done", "hush"}[m.Kind]
	if m.Kind == quiet {
		text += " " + big.NewInt(int64(m.Hush.From)).String() + " " + big.NewInt(int64(m.Hush.To)).String()
	}
	for _, one := range m.Labels {
		text += " " + one.Name + "=" + one.Value
	}
	for _, one := range m.Hush.Asked {
		text += " " + textOfMatcher(one)
	}
	return text
}

// matcherOf looks at each place for each kind's sign, until name and value are such.
func matcherOf(text string) (api.Matcher, bool) {
	for place := range len(text) {
		for kind := range 4 {
			m := asks(kind, text[:place], text[place+1:])
			if isMatcher(m) && textOfMatcher(m) == text {
				return m, true
			}
		}
	}
	return api.Matcher{}, false
}

// labelOf looks for the first equal sign: what stands ahead of it is the name, and all behind it is the value.
func labelOf(word string) (api.Label, bool) {
	place := strings.IndexByte(word, '=')
	if place < 0 {
		return api.Label{}, false
	}
	one := api.Label{Name: word[:place], Value: word[place+1:]}
	return one, isLabel(one)
}

// timeOf reads digits in numbers without an end.
func timeOf(word string) (int, bool) {
	n := new(big.Int)
	for i := range len(word) {
		if word[i] < '0' || word[i] > '9' {
			return 0, false
		}
		n.Mul(n, big.NewInt(10)).Add(n, big.NewInt(int64(word[i]-'0')))
	}
	if word == "" || len(word) > 1 && word[0] == '0' || n.Cmp(big.NewInt(last)) > 0 {
		return 0, false
	}
	return int(n.Int64()), true
}

// cut is a text cut at each blank.
func cut(text string) []string {
	words := []string{""}
	for i := range len(text) {
		if text[i] == 32 {
			words = append(words, "")
		} else {
			words[len(words)-1] += text[i : i+1]
		}
	}
	return words
}

// read is what the chapter asks of Parse.
func read(text string) (api.Msg, api.Errno) {
	if len(text) > 200 {
		return api.Msg{}, api.ErrSize
	}
	words := cut(text)
	switch words[0] {
	case "fire":
		return readAlert(fires, words[1:])
	case "done":
		return readAlert(isDone, words[1:])
	case "hush":
		return readHush(words[1:])
	}
	return api.Msg{}, api.ErrWord
}

func readAlert(kind int, words []string) (api.Msg, api.Errno) {
	var l []api.Label
	for _, word := range words {
		one, ok := labelOf(word)
		if !ok {
			return api.Msg{}, api.ErrChar
		}
		l = append(l, one)
	}
	if why := whyLabels(l); why != api.OK {
		return api.Msg{}, why
	}
	return alert(kind, inOrder(l)), api.OK
}

func inOrder(l []api.Label) []api.Label {
	row := slices.Clone(l)
	for i := range row {
		for j := range i {
			if row[i].Name < row[j].Name {
				row[i], row[j] = row[j], row[i]
			}
		}
	}
	return row
}

func readHush(words []string) (api.Msg, api.Errno) {
	if len(words) < 3 {
		return api.Msg{}, api.ErrLack
	}
	var times []int
	for _, word := range words[:2] {
		n, ok := timeOf(word)
		if !ok {
			return api.Msg{}, api.ErrChar
		}
		times = append(times, n)
	}
	var ms []api.Matcher
	for _, word := range words[2:] {
		m, ok := matcherOf(word)
		if !ok {
			return api.Msg{}, api.ErrChar
		}
		ms = append(ms, m)
	}
	if len(ms) > 4 {
		return api.Msg{}, api.ErrSize
	}
	if times[0] >= times[1] {
		return api.Msg{}, api.ErrRange
	}
	return hush(times[0], times[1], ms...), api.OK
}

func wantRight(t *testing.T, m api.Msg, want bool) {
	t.Helper()
	if got := wire.Right(m); got != want {
		t.Errorf("Right(%+v) = %v", m, got)
	}
}

func wantPrint(t *testing.T, m api.Msg, want string) {
	t.Helper()
	if got, why := wire.Print(m); got != want || why != api.OK {
		t.Errorf("Print(%+v) = %q, %d, want %q", m, got, why, want)
	}
}

func wantNoPrint(t *testing.T, m api.Msg) {
	t.Helper()
	if got, why := wire.Print(m); got != "" || why != api.ErrArg {
		t.Errorf("Print(%+v) = %q, %d, want %d and the empty text beside it", m, got, why, api.ErrArg)
	}
}

// wantMsg holds Right and Print against what the chapter says, whatever the message.
func wantMsg(t *testing.T, m api.Msg) {
	t.Helper()
	may := mayBe(m)
	wantRight(t, m, may)
	if may {
		wantPrint(t, m, textOf(m))
	} else {
		wantNoPrint(t, m)
	}
}

// wantMay is wantMsg with what is expected written out.
func wantMay(t *testing.T, m api.Msg, want bool) {
	t.Helper()
	wantRight(t, m, want)
	wantMsg(t, m)
}

func wantParse(t *testing.T, text string, want api.Msg) {
	t.Helper()
	if got, why := wire.Parse(text); !isSame(got, want) || why != api.OK {
		t.Errorf("Parse(%q) = %+v, %d, want %+v", text, got, why, want)
	}
}

func wantNoParse(t *testing.T, text string, want api.Errno) {
	t.Helper()
	if got, why := wire.Parse(text); !isSame(got, api.Msg{}) || why != want {
		t.Errorf("Parse(%q) = %+v, %d, want %d and zero beside it", text, got, why, want)
	}
}

// wantRead holds Parse against what the chapter says, whatever the text; what is parsed may be, and is parsed again as it was printed.
func wantRead(t *testing.T, text string) {
	t.Helper()
	m, why := read(text)
	if why != api.OK {
		wantNoParse(t, text, why)
		return
	}
	wantParse(t, text, m)
	wantAgain(t, text)
}

// wantAgain is P12.3 of a text that is a message's.
func wantAgain(t *testing.T, text string) {
	t.Helper()
	m, _ := wire.Parse(text)
	printed, why := wire.Print(m)
	if !wire.Right(m) || why != api.OK {
		t.Fatalf("Parse(%q) = %+v: Right is %v, Print %q, %d", text, m, wire.Right(m), printed, why)
	}
	wantParse(t, printed, m)
	if m.Kind == quiet && printed != text {
		t.Errorf("%q is parsed and printed as %q", text, printed)
	}
}

func wantAsked(t *testing.T, text string, want api.Matcher) {
	t.Helper()
	if got, why := wire.Asked(text); got != want || why != api.OK {
		t.Errorf("Asked(%q) = %+v, %d, want %+v", text, got, why, want)
	}
}

func wantNoAsked(t *testing.T, text string) {
	t.Helper()
	if got, why := wire.Asked(text); got != (api.Matcher{}) || why != api.ErrChar {
		t.Errorf("Asked(%q) = %+v, %d, want %d and zero beside it", text, got, why, api.ErrChar)
	}
}

// wantWord holds Asked against what the chapter says, whatever the text; what is asked is told as it was.
func wantWord(t *testing.T, text string) {
	t.Helper()
	m, ok := matcherOf(text)
	if !ok {
		wantNoAsked(t, text)
		return
	}
	wantAsked(t, text, m)
	wantAsk(t, m, text)
}

func wantAsk(t *testing.T, m api.Matcher, want string) {
	t.Helper()
	if got, why := wire.Ask(m); got != want || why != api.OK {
		t.Errorf("Ask(%+v) = %q, %d, want %q", m, got, why, want)
	}
}

func wantNoAsk(t *testing.T, m api.Matcher) {
	t.Helper()
	if got, why := wire.Ask(m); got != "" || why != api.ErrArg {
		t.Errorf("Ask(%+v) = %q, %d, want %d and the empty text beside it", m, got, why, api.ErrArg)
	}
}

// oddTexts may stand in no name, no value, and are no sign: blanks, capital letters, bytes of other writings, and bytes that are no text in UTF-8.
func oddTexts() []string {
	return []string{
		" ", "\t", "\n", "\r", "\v", "\x00", "\x7f", "_", ".", ",", "/", ":", "@", "`", "{", "[", "~", "+", "#",
		"A", "M", "Z",
		"ä", "é", "ß", "ａ", "а", "＝", "！", "？", "ˆ", "\u0085", "\u00a0", "\u3000", "\ufeff", "１", "٣", "𝐚",
		"\x80", "\xff", "\xc3", "\xc3\xc3", "\xbd", "\xc0\xbd", "\xed\xa0\x80", "\xf0\x9f", "\ufffd", "\ufffd=",
	}
}

func signs() []string {
	return []string{"=", "!", "^", "?"}
}

func goodNames() []string {
	return []string{"a", "b", "m", "z", "ab", "zz", "zone", "abcdefg", "abcdefgh", "ijklmnop", "qrstuvwx", "yz", "zzzzzzzz"}
}

func badNames() []string {
	l := []string{"", "abcdefghi", "aaaaaaaaaaaaaaaa", "0", "a0", "9a", "-", "a-", "-a", strings.Repeat("a", 257)}
	for _, odd := range oddTexts() {
		l = append(l, odd, odd+"a", "a"+odd, "a"+odd+"b")
	}
	return l
}

func goodValues() []string {
	return append(goodNames(), "", "0", "9", "-", "--", "0a", "a0", "-a", "eu-1", "12345678", "0-9-a-z-", "--------", "00000000")
}

func badValues() []string {
	l := []string{"abcdefghi", "123456789", "---------", strings.Repeat("0", 257), "=", "!", "^", "?", "x=", "=x", "x!", "!x", "x^", "^x", "x?", "?x", "x=y"}
	for _, odd := range oddTexts() {
		l = append(l, odd, odd+"a", "a"+odd, "0"+odd+"9")
	}
	return l
}

// noMatchers may not be.
func noMatchers() []api.Matcher {
	ms := all(
		asks(-1, "a", "x"), asks(4, "a", "x"), asks(5, "a", ""), asks(-1, "a", ""), asks(4, "a", ""), asks(math.MinInt, "a", ""), asks(math.MaxInt, "a", ""),
		asks(256, "a", "x"), asks(1<<32, "a", "x"), asks(1<<32+3, "a", ""), asks('=', "a", "x"), asks('?', "a", ""),
		asks(has, "a", "x"), asks(has, "b", "0"), asks(has, "a", "-"), asks(has, "abcdefgh", "12345678"),
		api.Matcher{}, asks(4, "", ""), asks(-1, "A", "\xff"),
	)
	for kind := range 4 {
		for _, name := range []string{"", "A", "a1", "-", "abcdefghi", "ä", "a=", "a b", "\xff"} {
			ms = append(ms, asks(kind, name, ""))
		}
		for _, value := range []string{"X", "abcdefghi", "x_", "x y", " ", "=", "?", "ä", "\xff"} {
			ms = append(ms, asks(kind, "a", value))
		}
	}
	return ms
}

// fewMatchers may be.
func fewMatchers() []api.Matcher {
	return all(
		asks(is, "a", "x"), asks(is, "zone", ""), asks(is, "abcdefgh", "0-9-a-z-"), asks(not, "a", "x"), asks(not, "b", ""), asks(not, "abcdefgh", "12345678"),
		asks(begins, "z", "eu"), asks(begins, "a", ""), asks(begins, "abcdefgh", "--------"), asks(has, "a", ""), asks(has, "abcdefgh", ""), asks(has, "z", ""),
	)
}

// fewRows are labels that may be.
func fewRows() [][]api.Label {
	return [][]api.Label{
		labels("a", ""), labels("a", "db"), labels("abcdefgh", "12345678"), labels("z", "-"),
		labels("a", "db", "z", "eu-1"), labels("a", "", "b", ""), labels("ab", "x", "b", ""), labels("a", "x", "ab", "x"),
		labels("a", "", "b", "", "c", ""), labels("a", "x", "b", "", "c", "y"), labels("abcdefgh", "12345678", "b", "-", "zzzzzzzz", "0-9-a-z-"),
		labels("aaaaaaaa", "11111111", "bbbbbbbb", "--------", "cccccccc", "zzzzzzzz"), labels("fire", "done", "hush", "fire"),
	}
}

// noRows are labels that may not be.
func noRows() [][]api.Label {
	return [][]api.Label{
		nil, {}, make([]api.Label, 1), make([]api.Label, 2),
		labels("a", "x", "b", "x", "c", "x", "d", "x"), labels("a", "", "b", "", "c", "", "d", "", "e", ""),
		labels("b", "x", "a", "x"), labels("a", "x", "c", "x", "b", "x"), labels("c", "x", "b", "x", "a", "x"), labels("ab", "x", "a", "x"),
		labels("a", "x", "a", "x"), labels("a", "x", "a", "y"), labels("a", "x", "b", "x", "b", "y"), labels("a", "x", "b", "x", "a", "x"),
		labels("", "x"), labels("", ""), labels("A", "x"), labels("a1", "x"), labels("abcdefghi", "x"), labels("ä", "x"), labels("a b", "x"), labels("a=b", "x"), labels("a", "x", "\xff", "x"),
		labels("a", "X"), labels("a", "x y"), labels("a", " "), labels("a", "x=y"), labels("a", "abcdefghi"), labels("a", "ä"), labels("a", "x", "b", "x", "c", "\xff"), labels("a", "_", "b", "x"),
	}
}

// fewHushes are messages that may be.
func fewHushes() []api.Msg {
	ms := fewMatchers()
	l := []api.Msg{
		hush(0, 1, ms[0]), hush(5, 9, asks(begins, "a", "we"), asks(has, "z", "")), hush(0, last, ms[8], ms[2], ms[5], ms[10]), hush(last-1, last, ms[9], ms[9]),
		hush(1, 10, ms[0], ms[3], ms[6]), hush(9, 10, ms[1], ms[1], ms[1], ms[1]), hush(99, 100, ms[4]), hush(1000000000000, 1000000000001, ms[7], ms[11]),
	}
	for _, m := range ms {
		l = append(l, hush(3, 4, m))
	}
	return l
}

// messages may be.
func messages() []api.Msg {
	l := fewHushes()
	for _, row := range fewRows() {
		l = append(l, alert(fires, row), alert(isDone, row))
	}
	return l
}

// The limits and the kinds are those that api names.
func TestLimits(t *testing.T) {
	if api.MaxMsg != 200 || api.MaxAsked != 4 || api.MaxLabels != 3 || api.MaxName != 8 || api.MaxTick != last {
		t.Fatalf("MaxMsg %d, MaxAsked %d, MaxLabels %d, MaxName %d, MaxTick %d", api.MaxMsg, api.MaxAsked, api.MaxLabels, api.MaxName, api.MaxTick)
	}
	if api.MFire != fires || api.MDone != isDone || api.MHush != quiet {
		t.Fatalf("MFire %d, MDone %d, MHush %d", api.MFire, api.MDone, api.MHush)
	}
	if api.MIs != is || api.MNot != not || api.MBegins != begins || api.MHas != has {
		t.Fatalf("MIs %d, MNot %d, MBegins %d, MHas %d", api.MIs, api.MNot, api.MBegins, api.MHas)
	}
}

// P12.1: Right and Print, by Kind: 0 and 1 with labels, 2 with a hush, and no other one.
func TestRightByKind(t *testing.T) {
	l, h := labels("a", "x"), api.Hush{From: 5, To: 9, Asked: all(asks(is, "a", "x"))}
	for _, kind := range []int{math.MinInt, math.MinInt + 1, -1 << 32, -256, -2, -1, 0, 1, 2, 3, 4, 256, 257, 258, 1 << 32, 1<<32 + 1, 1<<32 + 2, math.MaxInt - 1, math.MaxInt} {
		wantMay(t, api.Msg{Kind: kind, Labels: l}, kind == 0 || kind == 1)
		wantMay(t, api.Msg{Kind: kind, Hush: h}, kind == 2)
		wantMay(t, api.Msg{Kind: kind, Labels: l, Hush: h}, false)
		wantMay(t, api.Msg{Kind: kind}, false)
	}
}

// P12.1 and R3: Right and Print of alerts, by their labels.
func TestRightByLabels(t *testing.T) {
	for _, kind := range []int{fires, isDone} {
		for _, row := range fewRows() {
			wantMay(t, alert(kind, row), true)
			wantMay(t, api.Msg{Kind: kind, Labels: row, Hush: api.Hush{Asked: []api.Matcher{}}}, true)
		}
		for _, row := range noRows() {
			wantMay(t, alert(kind, row), false)
		}
		for _, name := range badNames() {
			wantMay(t, alert(kind, labels(name, "x")), false)
		}
		for _, value := range badValues() {
			wantMay(t, alert(kind, labels("a", value)), false)
		}
		for _, name := range goodNames() {
			for _, value := range goodValues() {
				wantMay(t, alert(kind, labels(name, value)), true)
			}
		}
	}
}

// P12.1: Right and Print of alerts, by a Hush that is not zero: in From alone, in To alone, in Asked alone, and in more.
func TestRightByHushOfAlerts(t *testing.T) {
	for _, kind := range []int{fires, isDone} {
		for _, row := range [][]api.Label{labels("a", "x"), labels("a", "", "b", "y", "c", "z"), nil} {
			for _, h := range []api.Hush{
				{From: 1}, {From: -1}, {From: math.MinInt}, {From: math.MaxInt}, {From: last}, {From: 1 << 32},
				{To: 1}, {To: -1}, {To: math.MinInt}, {To: math.MaxInt}, {To: last}, {To: 1 << 32},
				{Asked: all(asks(is, "a", "x"))}, {Asked: make([]api.Matcher, 1)}, {Asked: make([]api.Matcher, 5)},
				{From: 5, To: 9}, {From: 1, To: -1}, {From: 5, To: 9, Asked: all(asks(has, "a", ""))},
			} {
				wantMay(t, api.Msg{Kind: kind, Labels: row, Hush: h}, false)
			}
		}
	}
}

// P12.1 and R3: Right and Print of hushes, by labels beside them: there are none, be they nil or empty.
func TestRightByLabelsOfHushes(t *testing.T) {
	for _, m := range fewHushes() {
		wantMay(t, m, true)
		m.Labels = []api.Label{}
		wantMay(t, m, true)
		for _, row := range append(fewRows(), make([]api.Label, 1), labels("", ""), labels("A", "_"), make([]api.Label, 4)) {
			m.Labels = row
			wantMay(t, m, false)
		}
	}
}

// edgesOfTimes are at tick.Right's, and far beyond.
func edgesOfTimes() []int {
	return []int{math.MinInt, -1 << 40, -2, -1, 0, 1, 2, 9, 10, 1 << 32, last - 2, last - 1, last, last + 1, last + 2, 1 << 41, 1 << 62, math.MaxInt - 1, math.MaxInt}
}

// P12.1: Right and Print of hushes, by their times: each with each of some.
func TestRightByTimes(t *testing.T) {
	for _, from := range edgesOfTimes() {
		for _, to := range edgesOfTimes() {
			wantMay(t, hush(from, to, asks(is, "a", "x")), from >= 0 && from < to && to <= last)
		}
	}
}

// P12.1 and R3: Right and Print of hushes, by how many matchers there are: 1 to 4.
func TestRightByHowManyAsked(t *testing.T) {
	ms := fewMatchers()
	wantMay(t, hush(5, 9), false)
	wantMay(t, hush(5, 9, []api.Matcher{}...), false)
	for n := range len(ms) + 1 {
		wantMay(t, hush(5, 9, ms[:n]...), n >= 1 && n <= 4)
		wantMay(t, hush(5, 9, slices.Repeat(ms[:1], n)...), n >= 1 && n <= 4)
	}
}

// P12.1: Right and Print of hushes, with one matcher that may not be, at each place of one to four.
func TestRightByAsked(t *testing.T) {
	ms := fewMatchers()
	for n := range 4 {
		for place := range n + 1 {
			for _, m := range noMatchers() {
				wantMay(t, hush(5, 9, slices.Insert(slices.Clone(ms[:n]), place, m)...), false)
			}
			for _, m := range ms {
				wantMay(t, hush(5, 9, slices.Insert(slices.Clone(ms[:n]), place, m)...), true)
			}
		}
	}
}

// P12.1: Print's texts, written out.
func TestPrint(t *testing.T) {
	for _, c := range []struct {
		m    api.Msg
		want string
	}{
		{alert(fires, labels("a", "")), "fire a="},
		{alert(isDone, labels("a", "")), "done a="},
		{alert(fires, labels("a", "db")), "fire a=db"},
		{alert(isDone, labels("a", "db", "z", "eu-1")), "done a=db z=eu-1"},
		{alert(fires, labels("a", "", "b", "x")), "fire a= b=x"},
		{alert(fires, labels("a", "", "b", "", "c", "")), "fire a= b= c="},
		{alert(isDone, labels("abcdefgh", "12345678", "b", "-", "zzzzzzzz", "0-9-a-z-")), "done abcdefgh=12345678 b=- zzzzzzzz=0-9-a-z-"},
		{hush(0, 1, asks(is, "a", "x")), "hush 0 1 a=x"},
		{hush(5, 9, asks(begins, "a", "we"), asks(has, "z", "")), "hush 5 9 a^we z?"},
		{hush(0, last, asks(is, "a", ""), asks(not, "b", ""), asks(begins, "c", ""), asks(has, "d", "")), "hush 0 1099511627776 a= b! c^ d?"},
		{hush(last-1, last, asks(not, "z", "eu-1"), asks(not, "a", "-")), "hush 1099511627775 1099511627776 z!eu-1 a!-"},
		{hush(10, 100, asks(has, "a", ""), asks(has, "a", ""), asks(has, "a", "")), "hush 10 100 a? a? a?"},
		{hush(1000000, 1000001, asks(is, "abcdefgh", "12345678"), asks(not, "abcdefgh", "12345678"), asks(begins, "abcdefgh", "12345678"), asks(has, "abcdefgh", "")), "hush 1000000 1000001 abcdefgh=12345678 abcdefgh!12345678 abcdefgh^12345678 abcdefgh?"},
	} {
		wantMay(t, c.m, true)
		wantPrint(t, c.m, c.want)
		wantParse(t, c.want, c.m)
	}
}

// P12.1: Asked's matchers, written out, and texts that are none's.
func TestAsked(t *testing.T) {
	for _, c := range []struct {
		text string
		want api.Matcher
	}{
		{"a=", asks(is, "a", "")}, {"a!", asks(not, "a", "")}, {"a^", asks(begins, "a", "")}, {"a?", asks(has, "a", "")},
		{"a=x", asks(is, "a", "x")}, {"a!x", asks(not, "a", "x")}, {"a^we", asks(begins, "a", "we")}, {"z?", asks(has, "z", "")},
		{"abcdefgh=12345678", asks(is, "abcdefgh", "12345678")}, {"abcdefgh!--------", asks(not, "abcdefgh", "--------")}, {"abcdefgh^0-9-a-z-", asks(begins, "abcdefgh", "0-9-a-z-")}, {"abcdefgh?", asks(has, "abcdefgh", "")},
	} {
		wantAsked(t, c.text, c.want)
		wantAsk(t, c.want, c.text)
	}
	for _, text := range []string{
		"", "a", "ab", "abcdefgh", "x-1", "12345678", "=", "!", "^", "?", "=x", "!x", "^x", "?x", "==", "=?", "??",
		"a==", "a=!", "a=^", "a=?", "a!=", "a!!", "a^^", "a^=x", "a??", "a?=", "a=x=", "a=x?", "a!x!y", "a^x^", "a?!",
		"a?x", "a?0", "a?-", "a? ", "abcdefghi=x", "abcdefghi?", "a=123456789", "a!abcdefghi", "a^---------",
		"A=x", "a=X", "aB?", "a0=x", "0=x", "-=x", "a-!x", "a =x", " a=x", "a= x", "a=x ", "a ? ", "a?\n", "a=\t", "a=x\x00",
		"ä=x", "a=ä", "aäx", "\xff=x", "a=\xff", "a\xffx", "a\x80", "a＝x", "a:x", "a~x", "a<x", "a>x", "a@x", "a]x", "a_x",
	} {
		wantNoAsked(t, text)
	}
}

// P12.1: each of the 256 bytes in the sign's place, in the name, and in the value, of an empty value and of others.
func TestAskedEachByte(t *testing.T) {
	for b := range 256 {
		one := string([]byte{byte(b)})
		for _, text := range []string{one, "a" + one, "a" + one + "x", "abcdefgh" + one, "abcdefgh" + one + "12345678"} {
			wantWord(t, text)
		}
		for _, sign := range signs() {
			for _, text := range []string{one + sign, one + sign + "x", "a" + one + sign, one + "a" + sign, "a" + one + "b" + sign + "x", "abcdefg" + one + sign, "abcdefgh" + one + sign} {
				wantWord(t, text)
			}
			for _, value := range []string{one, "x" + one, one + "x", "x" + one + "y", "1234567" + one, "12345678" + one} {
				wantWord(t, "a"+sign+value)
			}
		}
	}
}

// P12.1: names and values of each length, behind each sign.
func TestAskedEachLength(t *testing.T) {
	lengths := []int{0, 1, 2, 3, 4, 5, 6, 7, 8, 9, 10, 15, 16, 17, 255, 256, 257, 264}
	for _, sign := range signs() {
		for _, n := range lengths {
			for _, k := range lengths {
				text := strings.Repeat("n", n) + sign + strings.Repeat("5", k)
				may := n >= 1 && n <= 8 && k <= 8 && (sign != "?" || k == 0)
				if _, why := wire.Asked(text); (why == api.OK) != may {
					t.Errorf("Asked(%q): %d", text, why)
				}
				wantWord(t, text)
			}
		}
	}
}

// P12.1: each of some names with each of some values, of such as may be and such as may not, behind each sign.
func TestAskedByTexts(t *testing.T) {
	for _, sign := range signs() {
		for _, name := range goodNames() {
			for _, value := range slices.Concat(goodValues(), badValues()) {
				wantWord(t, name+sign+value)
			}
		}
		for _, name := range badNames() {
			for _, value := range append(goodValues(), "X", "ä", "\xff", "x ") {
				wantWord(t, name+sign+value)
			}
		}
	}
	for _, odd := range oddTexts() {
		wantNoAsked(t, "a"+odd)
		wantNoAsked(t, "a"+odd+"x")
	}
}

// P12.1: all texts of few bytes.
func TestAskedOfFew(t *testing.T) {
	for _, text := range textsOf("az0-=!^? ", 4) {
		wantWord(t, text)
	}
}

// textsOf are all texts of up to n of these bytes.
func textsOf(these string, n int) []string {
	l := []string{""}
	for from := 0; n > 0; n-- {
		end := len(l)
		for _, text := range l[from:end] {
			for i := range len(these) {
				l = append(l, text+these[i:i+1])
			}
		}
		from = end
	}
	return l
}

// P12.1 and P12.3: Ask, each kind with each of some names and values; what it tells is asked as it was.
func TestAsk(t *testing.T) {
	for kind := range 4 {
		for _, name := range slices.Concat(goodNames(), badNames()) {
			for _, value := range slices.Concat(goodValues(), badValues()) {
				m := asks(kind, name, value)
				if !isMatcher(m) {
					wantNoAsk(t, m)
					continue
				}
				wantAsk(t, m, textOfMatcher(m))
				wantAsked(t, textOfMatcher(m), m)
			}
		}
	}
	for _, m := range noMatchers() {
		wantNoAsk(t, m)
	}
	for _, kind := range []int{math.MinInt, -256, -2, -1, 4, 5, 256, 1 << 32, math.MaxInt} {
		wantNoAsk(t, asks(kind, "a", ""))
		wantNoAsk(t, asks(kind, "a", "x"))
	}
}

// filled is a text with so many bytes of b behind it that it has n.
func filled(text, b string, n int) string {
	return text + strings.Repeat(b, n-len(text))
}

// P12.2: ErrSize of more than 200 bytes, ahead of every other error.
func TestParseBySize(t *testing.T) {
	for _, c := range []struct {
		text, b string
		why     api.Errno
	}{
		{"", "x", api.ErrWord}, {"", " ", api.ErrWord}, {"", "\xff", api.ErrWord}, {"fire", "d", api.ErrWord}, {"Fire ", "a", api.ErrWord}, {"ä", "ä"[:1], api.ErrWord},
		{"fire ", " ", api.ErrChar}, {"fire a=", "x", api.ErrChar}, {"done a=x ", "b", api.ErrChar}, {"fire a=x a=x a=", "x", api.ErrChar}, {"done =", "=", api.ErrChar}, {"fire a= b= c= d= e=", "5", api.ErrChar},
		{"hush ", "5", api.ErrLack}, {"hush 5 9", "9", api.ErrLack}, {"hush 5 9 ", "a", api.ErrChar}, {"hush 5 9 a=x", " ", api.ErrChar}, {"hush 9 5 a=", "x", api.ErrChar}, {"hush 9 5 a? a? a? a? ", "x", api.ErrChar}, {"hush 9 5 a? a? a? a? a", "?", api.ErrChar},
	} {
		wantNoParse(t, filled(c.text, c.b, 199), c.why)
		wantNoParse(t, filled(c.text, c.b, 200), c.why)
		for _, n := range []int{201, 202, 256, 400, 456, 1 << 16} {
			wantNoParse(t, filled(c.text, c.b, n), api.ErrSize)
		}
	}
	fifth := "hush 9 5" + strings.Repeat(" ab^we", 32)
	wantNoParse(t, fifth, api.ErrSize)
	wantNoParse(t, fifth+" a?x", api.ErrSize)
	wantNoParse(t, fifth[:194]+" Q", api.ErrChar)
	wantNoParse(t, "hush 0 1 "+strings.Repeat("ä", 96), api.ErrSize)
	wantNoParse(t, "fire a=x"+strings.Repeat(" b=y", 48), api.ErrArg)
	wantNoParse(t, "fire a=x"+strings.Repeat(" b=y", 48)+" ", api.ErrSize)
}

// P12.2: ErrWord, by the first word.
func TestParseByFirstWord(t *testing.T) {
	for _, word := range []string{
		"", "f", "fi", "fir", "fires", "firee", "firefire", "ire", "d", "don", "dones", "h", "hus", "hushh", "hush5", "us",
		"FIRE", "Fire", "firE", "DONE", "Done", "HUSH", "Hush", "fire=", "fire=x", "fire,", "a=x", "a", "5", "told", "new", "beat", "quiet",
		"\tfire", "fire\t", "\nfire", "fire\n", "fire\r", "fire\x00", "\x00fire", "\ufefffire", "fire\u00a0", "fire\xff", "\xff", "ä", "ﬁre",
	} {
		for _, others := range []string{"", " ", " a=x", " a=x b=y", " 5 9 a=x", " a", " fire a=x", " hush 5 9 a?"} {
			wantNoParse(t, word+others, api.ErrWord)
		}
	}
	for _, text := range []string{" fire a=x", "  fire a=x", " done a=x", " hush 5 9 a=x", "fire\ta=x", "fire\na=x", "fire\u00a0a=x", "done\va=x", "hush\t5\t9\ta=x", "hush\n5 9 a=x", "firea=x", "hush5 9 a=x", "a=x fire"} {
		wantNoParse(t, text, api.ErrWord)
	}
}

// kindsOfAlerts are the first words of alerts.
func kindsOfAlerts() map[string]int {
	return map[string]int{"fire": fires, "done": isDone}
}

// P12.2: the messages of one, two and three labels, in each order, sorted.
func TestParseAlerts(t *testing.T) {
	for first, kind := range kindsOfAlerts() {
		for _, row := range fewRows() {
			orders(row, func(l []api.Label) {
				text := first
				for _, one := range l {
					text += " " + one.Name + "=" + one.Value
				}
				wantParse(t, text, alert(kind, row))
				wantRead(t, text)
			})
		}
		wantParse(t, first+" a=", alert(kind, labels("a", "")))
		wantParse(t, first+" b=x a=", alert(kind, labels("a", "", "b", "x")))
		wantParse(t, first+" c=1 b=2 a=3", alert(kind, labels("a", "3", "b", "2", "c", "1")))
		wantParse(t, first+" b=- bb=0 a=eu-1", alert(kind, labels("a", "eu-1", "b", "-", "bb", "0")))
		wantParse(t, first+" fire=done done=fire", alert(kind, labels("done", "fire", "fire", "done")))
	}
}

// orders calls with each order of a list.
func orders(row []api.Label, call func([]api.Label)) {
	if len(row) == 0 {
		call(nil)
		return
	}
	for i, one := range row {
		orders(slices.Delete(slices.Clone(row), i, i+1), func(l []api.Label) {
			call(append(slices.Clone(l), one))
		})
	}
}

// P12.2: alerts' errors, written out: words that are no label's first (without an equal sign, of no name, of no value), then label.Sort's of words that all are: by how many there are, and by two of one name.
func TestParseNoAlerts(t *testing.T) {
	for _, c := range []struct {
		why    api.Errno
		others []string
	}{
		{api.ErrChar, []string{
			" ", "  ", " a", " a=x ", "  a=x", " a=x  b=y", " a=x b=y ", " a=x b", " b a=x", " a=x b c=y", " a!x", " a^", " a?", " a=x b!y",
			" ä", " \xff", " a＝x", " a:x", " \t", " \n", " a b c d", " a=x a=x b", " a a=x a=x", " a=x a=x ", " a=x b=x c=x d", " a=x b=x c=x d=x e", " a=x b=x c=x d=x ",
		}},
		{api.ErrChar, []string{
			" =", " =x", " a=x =", " = a=x", " a=x =y b=z", " = =", " b =x", " a=x a=x =", " a=x a=y =", " = a= a=", " a= b= c= =", " a= b= c= d= =",
			" A=x", " a1=x", " a-=x", " abcdefghi=x", " ä=x", " a!=x", " \ta=x", " A=x b", " A=x A=x", " a=x a=x B=x", " a=x A=x a=x", " a= b= c= D=", " a= B= c= d=", " a= b= c= d= E=",
		}},
		{api.ErrChar, []string{
			" a==", " a==x", " a=x=", " a=x=y", " ==", " a=b=c", " a=x b=y=z", " a=x=y b", " a=x=y a=x", " a=x a=x=", " a= a= b= c==", " a= b= c= d=x=y",
			" a=X", " a=abcdefghi", " a=ä", " a=\xff", " a=x?", " a=x,b=y", " a=x\tb=y", " a=x\nb=y", " a=x\n", " a=x\t", " a=x\u00a0", " a=x a=X", " a=X a=X", " a= b= c= d=D", " a=A b= c= d=",
		}},
		{api.ErrArg, []string{
			"", " a= b= c= d=", " d= c= b= a=", " a=x b=x c=x d=x", " a=x b=x c=x d=x e=x f=x g=x", " a=x a=x a=x a=x", " a=x a=x b=x c=x", " a= a= b= c=", " a= b= c= a=",
		}},
		{api.ErrTwice, []string{
			" a=x a=x", " a=x a=y", " a= a=x", " a= b= a=", " b=x a=y b=x", " a=x b=x b=y", " a=x a=x a=x", " abcdefgh=12345678 abcdefgh=--------",
		}},
		{api.ErrWord, []string{"\ta=x", "=", "=x", "a=x"}},
	} {
		for first := range kindsOfAlerts() {
			for _, others := range c.others {
				wantNoParse(t, first+others, c.why)
				wantRead(t, first+others)
			}
		}
	}
}

// P12.2: a word that is no label's, by its name or by its value, is ErrChar at each place of any labels', be they right, too many, or two of one name.
func TestParseEachWordThatIsNoLabel(t *testing.T) {
	var words []string
	for _, name := range badNames() {
		words = append(words, name+"=", name+"=x")
	}
	for _, value := range badValues() {
		words = append(words, "a="+value, "abcdefgh="+value)
	}
	rows := [][]string{nil, {"a="}, {"a=x", "b=y"}, {"a=", "a=x"}, {"a=x", "b=y", "c=z"}, {"b=", "a=", "b="}, {"a=", "b=", "c=", "d="}, {"a=", "a=", "b=", "c="}, {"a=", "b=", "c=", "d=", "e="}}
	for first := range kindsOfAlerts() {
		for _, row := range rows {
			for place := range len(row) + 1 {
				for _, word := range words {
					text := strings.Join(slices.Concat([]string{first}, row[:place], []string{word}, row[place:]), " ")
					if len(text) <= 200 {
						wantNoParse(t, text, api.ErrChar)
					}
					wantRead(t, text)
				}
			}
		}
	}
}

// wordsOfAlerts are labels', of one name and of others, and such as are no label's: without an equal sign, of no name, and of no value.
func wordsOfAlerts() []string {
	return []string{"a=", "a=x", "b=y", "ab=-1", "z=0", "", "a", "=", "=x", "a==", "b=x=y", "A=x", "b=X", "a!x", "abcdefghi=x"}
}

// P12.2: each row of none to four of some words, behind fire and done.
func TestParseEachRow(t *testing.T) {
	for first := range kindsOfAlerts() {
		for _, row := range rowsOf(wordsOfAlerts(), 4) {
			wantRead(t, first+row)
		}
	}
}

// rowsOf are all rows of up to n of these words, each with a blank ahead.
func rowsOf(words []string, n int) []string {
	l := []string{""}
	for from := 0; n > 0; n-- {
		end := len(l)
		for _, row := range l[from:end] {
			for _, word := range words {
				l = append(l, row+" "+word)
			}
		}
		from = end
	}
	return l
}

// wordsOfTimes are times as they stand in a text, and such as are none.
func wordsOfTimes() (times, others []string) {
	times = []string{"0", "1", "2", "5", "9", "10", "99", "100", "1000000", "4294967296", "1099511627774", "1099511627775", "1099511627776"}
	others = []string{
		"", "00", "01", "05", "000", "0000000000005", "01099511627776", "-0", "-1", "-5", "+0", "+5", "+1099511627776", "--5",
		"a", "5a", "a5", "5e3", "0x5", "0b1", "0o7", "1_000", "5.", "5.0", ".5", "5,0", "5-", "5\t", "\t5", "5\n", "5\x00", "\x005", "٣", "５", "5\xff", "\xff", "½", "a=x", "=",
		"1099511627777", "1099511627778", "1099511627786", "1099511627876", "2000000000000", "9999999999999", "10000000000000", "10995116277760", "100000000000000",
		"1000000000000000000", "9223372036854775806", "9223372036854775807", "9223372036854775808", "9999999999999999999",
		"10000000000000000000", "18446744073709551615", "18446744073709551616", "18446744073709551617", "18446744073709551621", "18446744073709551625", "99999999999999999999",
		"18447843585337179392", "340282366920938463463374607431768211456", "340282366920938463463374607431768211461", strings.Repeat("9", 60), strings.Repeat("0", 60), strings.Repeat("0", 59) + "5", "1" + strings.Repeat("0", 59),
	}
	return times, others
}

// P12.2: hushes, by their times: those that are none, wherever they stand, and From less than To, equal and greater.
func TestParseTimes(t *testing.T) {
	times, others := wordsOfTimes()
	for i, from := range times {
		for j, to := range times {
			text := "hush " + from + " " + to + " a=x"
			if i < j {
				a, _ := strconv.Atoi(from)
				b, _ := strconv.Atoi(to)
				wantParse(t, text, hush(a, b, asks(is, "a", "x")))
			} else {
				wantNoParse(t, text, api.ErrRange)
			}
			wantRead(t, text)
		}
		for _, other := range others {
			wantNoParse(t, "hush "+from+" "+other+" a=x", api.ErrChar)
			wantNoParse(t, "hush "+other+" "+from+" a=x", api.ErrChar)
		}
	}
	for _, from := range others {
		for _, to := range others {
			wantNoParse(t, "hush "+from+" "+to+" a=x", api.ErrChar)
		}
	}
}

// P12.2: hushes of 1 to 4 matchers.
func TestParseHushes(t *testing.T) {
	for _, m := range fewHushes() {
		wantParse(t, textOf(m), m)
		wantRead(t, textOf(m))
	}
	wantParse(t, "hush 5 9 a^we z?", hush(5, 9, asks(begins, "a", "we"), asks(has, "z", "")))
	wantParse(t, "hush 0 1099511627776 a= b! c^ d?", hush(0, last, asks(is, "a", ""), asks(not, "b", ""), asks(begins, "c", ""), asks(has, "d", "")))
	wantParse(t, "hush 1 2 z=x a=y z=x", hush(1, 2, asks(is, "z", "x"), asks(is, "a", "y"), asks(is, "z", "x")))
	wantParse(t, "hush 9 10 hush! fire=done", hush(9, 10, asks(not, "hush", ""), asks(is, "fire", "done")))
}

// P12.2: hushes' errors, written out: ErrLack, ErrChar of the times, ErrChar of the matchers, ErrSize, and ErrRange, in this order.
func TestParseNoHushes(t *testing.T) {
	for _, c := range []struct {
		others string
		why    api.Errno
	}{
		{"", api.ErrLack}, {" ", api.ErrLack}, {"  ", api.ErrLack}, {" 5", api.ErrLack}, {" 5 9", api.ErrLack}, {" 9 5", api.ErrLack}, {" 5 a=x", api.ErrLack}, {" a=x", api.ErrLack}, {" a=x b=y", api.ErrLack}, {" -1 x", api.ErrLack}, {" 5\t9 a=x", api.ErrLack}, {" 05 ", api.ErrLack},
		{"   ", api.ErrChar}, {" 5 9 ", api.ErrChar}, {"  5 9 a=x", api.ErrChar}, {" 5  9 a=x", api.ErrChar}, {" 5 9  a=x", api.ErrChar}, {" 5 9 a=x ", api.ErrChar}, {" 5 9 a=x  b=y", api.ErrChar}, {" 9 5 ", api.ErrChar}, {"  9 a=x", api.ErrChar}, {" 5  a=x", api.ErrChar},
		{" a=x b=y c=z", api.ErrChar}, {" 5 a=x 9", api.ErrChar}, {" a=x 5 9", api.ErrChar}, {" 5 9 5", api.ErrChar}, {" 5 9 a", api.ErrChar}, {" 5 9 a?x", api.ErrChar}, {" 5 9 =x", api.ErrChar}, {" 5 9 a==", api.ErrChar}, {" 5 9 A=x", api.ErrChar}, {" 5 9 a=X", api.ErrChar}, {" 5 9 abcdefghi?", api.ErrChar}, {" 5 9 a=123456789", api.ErrChar},
		{" 5 9 a=x\tb=y", api.ErrChar}, {" 5 9\ta=x b=y", api.ErrChar}, {" 5 9 a=x\n", api.ErrChar}, {" 5 9 a=\xff", api.ErrChar}, {" 5 9 ä=x", api.ErrChar},
		{" 5 9 a=x a", api.ErrChar}, {" 5 9 a a=x", api.ErrChar}, {" 5 9 a=x a b=y", api.ErrChar}, {" 5 9 a? b? c? D?", api.ErrChar}, {" 5 9 a? b? c? d? E?", api.ErrChar}, {" 5 9 A? b? c? d? e?", api.ErrChar}, {" 5 9 a? b? c? d? ", api.ErrChar}, {" 5 9 a? b? c? d? e? f", api.ErrChar},
		{" 5 9 a? b? c? d? e?", api.ErrSize}, {" 5 9 a? a? a? a? a?", api.ErrSize}, {" 5 9 a? b? c? d? e? f? g?", api.ErrSize}, {" 9 5 a? b? c? d? e?", api.ErrSize}, {" 5 5 a? b? c? d? e?", api.ErrSize},
		{" 5 5 a=x", api.ErrRange}, {" 9 5 a=x", api.ErrRange}, {" 0 0 a=x", api.ErrRange}, {" 1 0 a=x", api.ErrRange}, {" 1099511627776 1099511627776 a=x", api.ErrRange}, {" 1099511627776 0 a=x", api.ErrRange}, {" 9 5 a? b? c? d?", api.ErrRange}, {" 10 9 a=x", api.ErrRange},
		{" 05 9 A=x", api.ErrChar}, {" 5 09 a? b? c? d? e?", api.ErrChar}, {" 9 05 a=x", api.ErrChar}, {" 09 5 a=x", api.ErrChar}, {" 9 5 a", api.ErrChar}, {" 5 5 A?", api.ErrChar}, {" 1099511627777 5 a? b? c? d? e?", api.ErrChar},
	} {
		wantNoParse(t, "hush"+c.others, c.why)
		wantRead(t, "hush"+c.others)
	}
}

// P12.2: each row of some matchers, and of words that are none's, behind times that are in order, that are not, and that are none.
func TestParseEachHush(t *testing.T) {
	words := []string{"a=x", "zone?", "b!", "c^eu-1", "", "a", "a?x", "=", "A=x"}
	rows := rowsOf(words, 5)
	for _, times := range []string{"5 9", "9 9", "9 5", "05 9", "5 x"} {
		for _, row := range rows {
			wantRead(t, "hush "+times+row)
		}
	}
	for _, row := range rowsOf([]string{"5", "9", "09", "", "a=x", "b?", "x"}, 5) {
		wantRead(t, "hush"+row)
	}
}

// P12.2: matchers, and words that are none's, wherever they stand in a hush.
func TestParseEachMatcher(t *testing.T) {
	for _, sign := range signs() {
		for _, name := range slices.Concat(goodNames(), badNames()) {
			for _, value := range []string{"", "x", "12345678", "123456789", "X", "=", "ä", "\xff", " "} {
				for _, text := range []string{"hush 5 9 " + name + sign + value, "hush 5 9 a? " + name + sign + value, "hush 5 9 " + name + sign + value + " a= b=", "hush 5 9 a? b? c? " + name + sign + value, "hush 9 5 a? b? c? d? " + name + sign + value} {
					wantRead(t, text)
				}
			}
		}
	}
}

// texts are messages', of each kind, as they are printed and with labels in another order, and a few that are none's.
func texts() []string {
	return []string{
		"fire a=", "done a=db", "fire b=x a=", "done abcdefgh=12345678 b=- zzzzzzzz=0-9-a-z-", "fire c= b= a=", "fire a=x b=y c=z d=", "done a=x a=y",
		"hush 0 1 a=x", "hush 5 9 a^we z?", "hush 0 1099511627776 a= b! c^ d?", "hush 1099511627775 1099511627776 abcdefgh!12345678", "hush 9 10 a? b? c? d? e?", "hush 10 9 a^",
		"", "fire", "hush 5 9",
	}
}

// P12.2: texts with one byte changed, at each place to each of the 256, with one more, and with one less.
func TestParseEachByte(t *testing.T) {
	for _, text := range texts() {
		for place := range len(text) + 1 {
			for b := range 256 {
				one := string([]byte{byte(b)})
				wantRead(t, text[:place]+one+text[place:])
				if place < len(text) {
					wantRead(t, text[:place]+one+text[place+1:])
				}
			}
			if place < len(text) {
				wantRead(t, text[:place]+text[place+1:])
				wantRead(t, text[:place])
				wantRead(t, text[place:])
			}
		}
	}
}

// P12.2 and P12.3: rows of any words that messages are made of, and of others, and any bytes.
func TestParseOfMany(t *testing.T) {
	r := source()
	times, others := wordsOfTimes()
	words := slices.Concat(wordsOfAlerts(), times, others, []string{"fire", "done", "hush", "a?", "b^we", "c!", "zone=eu-1"})
	for range 100000 {
		text := []string{"fire", "done", "hush", "hush 5 9", "hush 0 1099511627776", "Fire", ""}[r.IntN(7)]
		for range r.IntN(8) {
			text += " " + words[r.IntN(len(words))]
		}
		wantRead(t, text)
	}
	for range 100000 {
		b := make([]byte, r.IntN(40))
		for i := range b {
			b[i] = "abz059-=!^? \t\xffA"[r.IntN(15)]
		}
		wantRead(t, []string{"fire ", "done ", "hush ", "hush 5 9 ", ""}[r.IntN(5)]+string(b))
	}
}

func someText(r *rand.Rand, of string, least int) string {
	b := make([]byte, least+r.IntN(9-least))
	for i := range b {
		b[i] = of[r.IntN(len(of))]
	}
	return string(b)
}

func someLabels(r *rand.Rand) []api.Label {
	byName := map[string]string{}
	for range 1 + r.IntN(3) {
		byName[someText(r, letters, 1)] = someText(r, inValue, 0)
	}
	var l []api.Label
	for name, value := range byName {
		l = append(l, labels(name, value)...)
	}
	return inOrder(l)
}

func someHush(r *rand.Rand) api.Msg {
	from := r.IntN(last >> r.IntN(40))
	m := hush(from, from+1+r.IntN(last-from))
	for range 1 + r.IntN(4) {
		one := asks(r.IntN(4), someText(r, letters, 1), someText(r, inValue, 0))
		if one.Kind == has {
			one.Value = ""
		}
		m.Hush.Asked = append(m.Hush.Asked, one)
	}
	return m
}

// P12.3: what is printed is parsed as it was, of messages of all kinds; no text is longer than may be.
func TestPrintedIsParsed(t *testing.T) {
	r := source()
	l := messages()
	for range 20000 {
		l = append(l, alert(r.IntN(2), someLabels(r)), someHush(r))
	}
	of := map[string]api.Msg{}
	for _, m := range l {
		wantMay(t, m, true)
		text, why := wire.Print(m)
		if why != api.OK || len(text) > 200 {
			t.Fatalf("Print(%+v) = %q, %d", m, text, why)
		}
		wantParse(t, text, m)
		if other, ok := of[text]; ok && !isSame(m, other) {
			t.Fatalf("%+v and %+v are both printed as %q", m, other, text)
		}
		of[text] = m
	}
}

// P12.3: labels in any order make one message, and matchers in another order make another one.
func TestOrder(t *testing.T) {
	r := source()
	for range 2000 {
		row := someLabels(r)
		for first, kind := range kindsOfAlerts() {
			orders(row, func(l []api.Label) {
				text := first
				for _, one := range l {
					text += " " + one.Name + "=" + one.Value
				}
				wantParse(t, text, alert(kind, row))
			})
		}
	}
	wantParse(t, "hush 5 9 b? a?", hush(5, 9, asks(has, "b", ""), asks(has, "a", "")))
	wantParse(t, "hush 5 9 a? b?", hush(5, 9, asks(has, "a", ""), asks(has, "b", "")))
}

// P12.2: the chapter's examples.
func TestExamples(t *testing.T) {
	wantParse(t, "fire b=x a=", alert(fires, labels("a", "", "b", "x")))
	wantParse(t, "hush 5 9 a^we z?", hush(5, 9, asks(begins, "a", "we"), asks(has, "z", "")))
}

// P1: no call panics and each ends, at long texts, long lists, and the least and the greatest numbers.
func TestNothingPanics(t *testing.T) {
	const many = 1 << 18
	kinds := []int{math.MinInt, -1, 0, 1, 2, 3, 4, math.MaxInt}
	for _, one := range []string{"a", "=", "?", " ", "\xff", "0", "a=x ", "fire ", "hush 5 9 ", "ä"} {
		long := strings.Repeat(one, many)
		for _, text := range []string{long, "fire " + long, "hush 5 9 " + long, "hush " + long} {
			if m, why := wire.Parse(text); !isSame(m, api.Msg{}) || why != api.ErrSize {
				t.Errorf("Parse of %d bytes: %+v, %d", len(text), m, why)
			}
		}
		for _, text := range []string{long, "a" + long, "a=" + long, long + "=x", "a?" + long} {
			if m, why := wire.Asked(text); m != (api.Matcher{}) || why != api.ErrChar {
				t.Errorf("Asked of %d bytes: %+v, %d", len(text), m, why)
			}
		}
		for _, kind := range kinds {
			for _, m := range all(asks(kind, long, ""), asks(kind, "a", long)) {
				if text, why := wire.Ask(m); text != "" || why != api.ErrArg {
					t.Errorf("Ask of a matcher of %d bytes: %d bytes, %d", len(long), len(text), why)
				}
				wantNoLongMsg(t, hush(5, 9, m))
			}
			wantNoLongMsg(t, alert(kind, labels(long, "x")))
			wantNoLongMsg(t, alert(kind, labels("a", long)))
		}
	}
	for _, kind := range kinds {
		wantNoLongMsg(t, alert(kind, make([]api.Label, many)))
		wantNoLongMsg(t, alert(kind, slices.Repeat(labels("a", "x"), many)))
		wantNoLongMsg(t, api.Msg{Kind: kind, Hush: api.Hush{From: math.MinInt, To: math.MaxInt, Asked: slices.Repeat(all(asks(is, "a", "x")), many)}})
		wantNoLongMsg(t, api.Msg{Kind: kind, Hush: api.Hush{From: 5, To: 9, Asked: slices.Repeat(all(asks(has, "a", "")), many)}})
	}
}

func wantNoLongMsg(t *testing.T, m api.Msg) {
	t.Helper()
	text, why := wire.Print(m)
	if wire.Right(m) || text != "" || why != api.ErrArg {
		t.Errorf("a message of kind %d with %d labels and %d matchers: %v, %d bytes, %d", m.Kind, len(m.Labels), len(m.Hush.Asked), wire.Right(m), len(text), why)
	}
}

// R4: no call changes the lists that it was handed, nor what lies behind their ends, and what does is not asked either.
func TestListsStay(t *testing.T) {
	tail, more := labels("B", "X", "", "", "a", "x"), all(asks(-1, "A", "X"), asks(9, "", ""), asks(is, "a", "z"))
	rows := slices.Concat(fewRows(), noRows(), [][]api.Label{labels("c", "x", "b", "y", "a", "z")})
	asked := [][]api.Matcher{nil, {}, fewMatchers()[:1], fewMatchers()[2:6], fewMatchers()[:5], noMatchers()[:2], all(asks(has, "z", ""), asks(is, "a", "x"))}
	for _, row := range rows {
		for _, ms := range asked {
			for kind := -1; kind <= 3; kind++ {
				longL, longM := slices.Concat(row, tail), slices.Concat(ms, more)
				l, asked := longL[:len(row)], longM[:len(ms)]
				wantMsg(t, alert(kind, l))
				wantMsg(t, hush(5, 9, asked...))
				wantMsg(t, api.Msg{Kind: kind, Labels: l, Hush: api.Hush{Asked: asked}})
				wantMsg(t, api.Msg{Kind: kind, Labels: l, Hush: api.Hush{From: 5, To: 9, Asked: asked}})
				if !slices.Equal(longL, slices.Concat(row, tail)) || !slices.Equal(longM, slices.Concat(ms, more)) {
					t.Fatalf("%q and %+v were handed, and became %q and %+v", row, ms, longL, longM)
				}
			}
		}
	}
}

// R1 and P12.3: what Parse answers shares nothing with another answer: whoever writes to one does not change the other.
func TestParsedIsNew(t *testing.T) {
	for _, m := range messages() {
		text := textOf(m)
		one, _ := wire.Parse(text)
		other, _ := wire.Parse(text)
		for i := range one.Labels[:cap(one.Labels)] {
			one.Labels[:cap(one.Labels)][i] = api.Label{Name: "spoilt", Value: "9"}
		}
		for i := range one.Hush.Asked[:cap(one.Hush.Asked)] {
			one.Hush.Asked[:cap(one.Hush.Asked)][i] = asks(has, "spoilt", "9")
		}
		if !isSame(other, m) {
			t.Errorf("Parse(%q) was told, and became %+v", text, other)
		}
		wantParse(t, text, m)
	}
}

// R1: a call answers the same, whatever was called ahead of it.
func TestNothingIsKept(t *testing.T) {
	for range 3 {
		for _, text := range texts() {
			wantRead(t, text)
		}
		for _, m := range messages() {
			wantMay(t, m, true)
		}
		wantParse(t, "fire b=x a=", alert(fires, labels("a", "", "b", "x")))
		wantNoParse(t, "fire b=x b=", api.ErrTwice)
		wantParse(t, "done b=x a=", alert(isDone, labels("a", "", "b", "x")))
		wantNoParse(t, "hush 9 5 a?", api.ErrRange)
		wantParse(t, "hush 5 9 a?", hush(5, 9, asks(has, "a", "")))
		wantNoAsked(t, "a?x")
		wantAsked(t, "a=x", asks(is, "a", "x"))
		wantNoAsk(t, asks(has, "a", "x"))
		wantAsk(t, asks(begins, "a", "x"), "a^x")
		wantNoPrint(t, hush(9, 5, asks(has, "a", "")))
	}
}
