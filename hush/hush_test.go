package hush_test

import (
	"math"
	"math/rand/v2"
	"slices"
	"strings"
	"testing"

	"foghorn/api"
	"foghorn/hush"
)

const (
	is, not, begins, has = 0, 1, 2, 3

	maxHushes = 8
	last      = 1 << 40

	letters = "abcdefghijklmnopqrstuvwxyz"
	inValue = letters + "0123456789-"
)

// A seed that stays the same: a run that fails fails again.
func source() *rand.Rand {
	return rand.New(rand.NewPCG(28, 29))
}

func asks(kind int, name, value string) api.Matcher {
	return api.Matcher{Kind: kind, Name: name, Value: value}
}

func quiet(from, to int, asked ...api.Matcher) api.Hush {
	return api.Hush{From: from, To: to, Asked: asked}
}

// ofA asks for a=x.
func ofA(from, to int) api.Hush {
	return quiet(from, to, asks(is, "a", "x"))
}

// ofB asks for b=y.
func ofB(from, to int) api.Hush {
	return quiet(from, to, asks(is, "b", "y"))
}

// hushes of a=x are of each two numbers: from, and to.
func hushes(numbers ...int) []api.Hush {
	var l []api.Hush
	for i := 0; i < len(numbers); i += 2 {
		l = append(l, ofA(numbers[i], numbers[i+1]))
	}
	return l
}

func all(l ...api.Hush) []api.Hush {
	return l
}

// labels are of each two texts: a name, and its value.
func labels(texts ...string) []api.Label {
	var l []api.Label
	for i := 0; i < len(texts); i += 2 {
		l = append(l, api.Label{Name: texts[i], Value: texts[i+1]})
	}
	return l
}

// copyOf shares nothing with the hushes.
func copyOf(l []api.Hush) []api.Hush {
	row := slices.Clone(l)
	for i := range row {
		row[i].Asked = slices.Clone(row[i].Asked)
	}
	return row
}

// areSame holds a nil list for an empty one.
func areSame(a, b []api.Hush) bool {
	return slices.EqualFunc(a, b, func(a, b api.Hush) bool {
		return a.From == b.From && a.To == b.To && slices.Equal(a.Asked, b.Asked)
	})
}

// onlyOf asks byte by byte whether a text is least to 8 of those that may stand in it.
func onlyOf(text, these string, least int) bool {
	for i := range len(text) {
		if strings.IndexByte(these, text[i]) < 0 {
			return false
		}
	}
	return len(text) >= least && len(text) <= 8
}

func isName(text string) bool {
	return onlyOf(text, letters, 1)
}

func isValue(text string) bool {
	return onlyOf(text, inValue, 0)
}

func isMatcher(m api.Matcher) bool {
	return 0 <= m.Kind && m.Kind <= 3 && isName(m.Name) && isValue(m.Value) && (m.Kind != has || m.Value == "")
}

func isTime(n int) bool {
	return 0 <= n && n <= last
}

// isHush is what chapter 12 says of a hush.
func isHush(h api.Hush) bool {
	may := isTime(h.From) && isTime(h.To) && h.From < h.To && 1 <= len(h.Asked) && len(h.Asked) <= 4
	for _, m := range h.Asked {
		may = may && isMatcher(m)
	}
	return may
}

func areHushes(l []api.Hush) bool {
	may := len(l) <= maxHushes
	for _, h := range l {
		may = may && isHush(h)
	}
	return may
}

// areLabels is what chapter 10 says of labels.
func areLabels(l []api.Label) bool {
	may := 1 <= len(l) && len(l) <= 3
	for i, one := range l {
		may = may && isName(one.Name) && isValue(one.Value) && (i == 0 || l[i-1].Name < one.Name)
	}
	return may
}

// matches is what chapter 10 says of one matcher.
func matches(m api.Matcher, l []api.Label) bool {
	for _, one := range l {
		if one.Name != m.Name {
			continue
		}
		switch m.Kind {
		case is:
			return one.Value == m.Value
		case not:
			return one.Value != m.Value
		case begins:
			return len(one.Value) >= len(m.Value) && one.Value[:len(m.Value)] == m.Value
		}
		return true
	}
	return m.Kind == not
}

// isHushing is what the chapter says of one hush at a time.
func isHushing(h api.Hush, l []api.Label, now int) bool {
	yes := h.From <= now && now < h.To
	for _, m := range h.Asked {
		yes = yes && matches(m, l)
	}
	return yes
}

func areHushed(hs []api.Hush, l []api.Label, now int) bool {
	yes := false
	for _, h := range hs {
		yes = yes || isHushing(h, l, now)
	}
	return yes
}

// freeAt is the least of now and of all ends behind it at which nothing hushes the labels: they can't get free at any other time.
func freeAt(hs []api.Hush, l []api.Label, now int) int {
	ends := []int{now}
	for _, h := range hs {
		ends = append(ends, h.To)
	}
	free := last
	for _, end := range ends {
		if end >= now && end < free && !areHushed(hs, l, end) {
			free = end
		}
	}
	return free
}

// lasting are those that are not over.
func lasting(l []api.Hush, now int) []api.Hush {
	var row []api.Hush
	for _, h := range l {
		if now < h.To {
			row = append(row, h)
		}
	}
	return row
}

// added is what the chapter asks of Add.
func added(l []api.Hush, h api.Hush, now int) ([]api.Hush, api.Errno) {
	row := append(lasting(l, now), h)
	switch {
	case !areHushes(l) || !isHush(h) || !isTime(now):
		return nil, api.ErrArg
	case h.To <= now:
		return nil, api.ErrRange
	case len(row) > maxHushes:
		return nil, api.ErrFull
	}
	return row, api.OK
}

func wantRight(t *testing.T, l []api.Hush, want bool) {
	t.Helper()
	if areHushes(l) != want {
		t.Fatalf("the chapter does not say %v of %+v", want, l)
	}
	if got := hush.Right(l); got != want {
		t.Errorf("Right(%+v) = %v", l, got)
	}
}

func wantAdd(t *testing.T, l []api.Hush, h api.Hush, now int, want ...api.Hush) {
	t.Helper()
	if got, why := hush.Add(l, h, now); !areSame(got, want) || why != api.OK {
		t.Errorf("Add(%+v, %+v, %d) = %+v, %d, want %+v", l, h, now, got, why, want)
	}
}

func wantNoAdd(t *testing.T, l []api.Hush, h api.Hush, now int, want api.Errno) {
	t.Helper()
	if got, why := hush.Add(l, h, now); len(got) != 0 || why != want {
		t.Errorf("Add(%+v, %+v, %d) = %+v, %d, want %d and nothing beside it", l, h, now, got, why, want)
	}
}

// wantAdded holds Add against what the chapter says, whatever it is handed; what it answers are hushes.
func wantAdded(t *testing.T, l []api.Hush, h api.Hush, now int) {
	t.Helper()
	row, why := added(l, h, now)
	if why != api.OK {
		wantNoAdd(t, l, h, now, why)
		return
	}
	wantAdd(t, l, h, now, row...)
	wantRight(t, row, true)
}

func wantActive(t *testing.T, hs []api.Hush, l []api.Label, now int, want bool) {
	t.Helper()
	if areHushed(hs, l, now) != want {
		t.Fatalf("the chapter does not say %v of %v at %d, with %+v", want, l, now, hs)
	}
	if got, why := hush.Active(hs, l, now); got != want || why != api.OK {
		t.Errorf("Active(%+v, %v, %d) = %v, %d", hs, l, now, got, why)
	}
}

func wantFree(t *testing.T, hs []api.Hush, l []api.Label, now, want int) {
	t.Helper()
	if freeAt(hs, l, now) != want {
		t.Fatalf("the chapter does not say %d of %v at %d, with %+v", want, l, now, hs)
	}
	if got, why := hush.Free(hs, l, now); got != want || why != api.OK {
		t.Errorf("Free(%+v, %v, %d) = %d, %d, want %d", hs, l, now, got, why, want)
	}
}

// wantAsked holds Active and Free against what the chapter says.
func wantAsked(t *testing.T, hs []api.Hush, l []api.Label, now int) {
	t.Helper()
	wantActive(t, hs, l, now, areHushed(hs, l, now))
	wantFree(t, hs, l, now, freeAt(hs, l, now))
}

// wantNotAsked is ErrArg of Active and Free, with nothing beside it.
func wantNotAsked(t *testing.T, hs []api.Hush, l []api.Label, now int) {
	t.Helper()
	if got, why := hush.Active(hs, l, now); got || why != api.ErrArg {
		t.Errorf("Active(%+v, %v, %d) = %v, %d, want %d and false beside it", hs, l, now, got, why, api.ErrArg)
	}
	if got, why := hush.Free(hs, l, now); got != 0 || why != api.ErrArg {
		t.Errorf("Free(%+v, %v, %d) = %d, %d, want %d and 0 beside it", hs, l, now, got, why, api.ErrArg)
	}
}

func noTimes() []int {
	return []int{-1, -2, -last, last + 1, last + 2, 1 << 62, math.MinInt, math.MinInt + 1, math.MaxInt - 1, math.MaxInt}
}

func fewTimes() []int {
	return []int{0, 1, 2, 7, 1 << 20, 1 << 32, last - 2, last - 1, last}
}

// fewMatchers may be.
func fewMatchers() []api.Matcher {
	return []api.Matcher{
		asks(is, "a", "x"), asks(is, "zone", ""), asks(is, "abcdefgh", "0-9-a-z-"),
		asks(not, "a", "x"), asks(not, "b", ""), asks(not, "abcdefgh", "12345678"),
		asks(begins, "z", "eu"), asks(begins, "a", ""), asks(begins, "abcdefgh", "--------"),
		asks(has, "a", ""), asks(has, "abcdefgh", ""), asks(has, "z", ""),
	}
}

// noMatchers may not be: by Kind, by a Value beside MHas, by Name, by Value.
func noMatchers() []api.Matcher {
	ms := []api.Matcher{
		asks(-1, "a", "x"), asks(4, "a", "x"), asks(-1, "a", ""), asks(4, "a", ""), asks(math.MinInt, "a", ""), asks(math.MaxInt, "a", ""),
		asks(256, "a", "x"), asks(1<<32, "a", "x"), asks(1<<32+3, "a", ""), asks('=', "a", "x"), asks('?', "a", ""),
		asks(has, "a", "x"), asks(has, "b", "0"), asks(has, "abcdefgh", "12345678"),
		{}, asks(4, "", ""), asks(-1, "A", "\xff"),
	}
	for kind := range 4 {
		for _, name := range []string{"", "A", "a1", "-", "abcdefghi", "ä", "a=", "a b", "\xff", "\ufffd"} {
			ms = append(ms, asks(kind, name, ""))
		}
		for _, value := range []string{"X", "abcdefghi", "x_", "x y", " ", "=", "?", "ä", "\xff", "\x00"} {
			ms = append(ms, asks(kind, "a", value))
		}
	}
	return ms
}

// fewHushes may be.
func fewHushes() []api.Hush {
	l := all(ofA(0, 1), ofA(0, last), ofA(last-1, last), ofA(7, 8), quiet(1<<20, 1<<32, fewMatchers()[:4]...), quiet(3, 4, asks(has, "a", ""), asks(has, "a", "")))
	for _, m := range fewMatchers() {
		l = append(l, quiet(2, 5, m), quiet(0, last, asks(is, "a", "x"), m))
	}
	return l
}

// noHushes may not be: by their times, by how many matchers there are, by one of these.
func noHushes() []api.Hush {
	five := fewMatchers()[:5]
	l := all(api.Hush{}, quiet(2, 5), quiet(2, 5, five...), quiet(2, 5, fewMatchers()...), api.Hush{From: 2, To: 5, Asked: []api.Matcher{}}, ofA(5, 5), ofA(5, 4), ofA(0, 0), ofA(1, 0), ofA(last, last), ofA(last, last-1), ofA(last, 0), quiet(-1, last+1, five...))
	for _, no := range noTimes() {
		l = append(l, ofA(no, 5), ofA(2, no), ofA(no, no), ofA(no, last), ofA(0, no))
	}
	for i, m := range noMatchers() {
		l = append(l, quiet(2, 5, m), quiet(2, 5, slices.Insert(fewMatchers()[:3], i%4, m)...))
	}
	return l
}

// rows are hushes: of all lengths, alike and unlike.
func rows() [][]api.Hush {
	few := fewHushes()
	l := [][]api.Hush{nil, {}, hushes(2, 5, 5, 9), hushes(5, 9, 2, 5), slices.Repeat(hushes(2, 5), maxHushes)}
	for i, h := range few {
		l = append(l, all(h), all(h, h), all(h, few[0]), all(few[len(few)-1-i], h, few[1]))
	}
	for n := range maxHushes + 1 {
		l = append(l, few[n:2*n], slices.Repeat(few[n:n+1], n))
	}
	return l
}

// noRows are none: too many, or with one that may not be at some place.
func noRows() [][]api.Hush {
	l := [][]api.Hush{fewHushes()[:maxHushes+1], slices.Repeat(hushes(2, 5), maxHushes+1), slices.Repeat(hushes(2, 5), 1000), make([]api.Hush, maxHushes), make([]api.Hush, maxHushes+1)}
	for i, no := range noHushes() {
		eight := slices.Repeat(hushes(2, 5), maxHushes)
		eight[i%maxHushes] = no
		l = append(l, all(no), all(ofA(2, 5), no), all(no, ofA(2, 5)), eight)
	}
	return l
}

// fewLabels may be.
func fewLabels() [][]api.Label {
	return [][]api.Label{
		labels("a", "x"), labels("a", ""), labels("b", "y"), labels("zone", "eu-1"), labels("abcdefgh", "0-9-a-z-"),
		labels("a", "x", "b", "y"), labels("a", "x", "ab", "x"), labels("a", "x", "b", "y", "z", "eu"), labels("abcdefgh", "12345678", "b", "", "z", "eu-1"),
	}
}

// noLabels may not be: none, four, not rising, two of one Name, no name, no value.
func noLabels() [][]api.Label {
	l := [][]api.Label{
		nil, {}, labels("a", "x")[:0], make([]api.Label, 1), make([]api.Label, 3),
		labels("a", "x", "b", "x", "c", "x", "d", "x"), slices.Repeat(labels("a", "x"), 1000),
		labels("b", "x", "a", "x"), labels("a", "x", "c", "x", "b", "x"), labels("b", "x", "a", "x", "c", "x"), labels("ab", "x", "a", "x"),
		labels("a", "x", "a", "x"), labels("a", "x", "a", "y"), labels("a", "x", "b", "x", "b", "x"), labels("a", "x", "a", "x", "b", "x"),
	}
	for _, name := range []string{"", "A", "a1", "abcdefghi", "ä", "a=", " a", "\xff", "\x00"} {
		l = append(l, labels(name, "x"), labels(name, "x", "zz", "x"), labels("a", "x", name, "x"))
	}
	for _, value := range []string{"X", "abcdefghi", "x_", "x y", " ", "=", "ä", "\xff", "\x00"} {
		l = append(l, labels("a", value), labels("a", value, "b", "x"), labels("a", "x", "b", "x", "c", value))
	}
	return l
}

// The limits are those that api names.
func TestLimits(t *testing.T) {
	if api.MaxHushes != maxHushes || api.MaxTick != last || api.MaxAsked != 4 || api.MaxLabels != 3 {
		t.Fatalf("MaxHushes %d, MaxTick %d, MaxAsked %d, MaxLabels %d", api.MaxHushes, api.MaxTick, api.MaxAsked, api.MaxLabels)
	}
}

// P14.1 and R3: Right, by how many there are, nil and empty lists among them; what lies behind a list's end is none of it.
func TestRightByHowMany(t *testing.T) {
	for n := range 40 {
		for _, h := range fewHushes() {
			wantRight(t, slices.Repeat(all(h), n), n <= 8)
		}
	}
	wantRight(t, slices.Repeat(hushes(2, 5), 1<<16), false)
	wantRight(t, nil, true)
	wantRight(t, []api.Hush{}, true)
	wantRight(t, make([]api.Hush, 9)[:0], true)
	wantRight(t, append(slices.Repeat(hushes(2, 5), 8), api.Hush{}, api.Hush{})[:8], true)
	wantRight(t, fewHushes()[:8], true)
	wantRight(t, fewHushes()[:9], false)
}

// wantRightWith puts one hush at each place of some more that may be.
func wantRightWith(t *testing.T, h api.Hush, want bool) {
	t.Helper()
	for _, n := range []int{1, 2, 3, 7, 8} {
		for place := range n {
			l := slices.Repeat(hushes(2, 5), n)
			l[place] = h
			wantRight(t, l, want)
		}
	}
}

// P14.1: Right, by the times of one of them, each with each.
func TestRightByTimes(t *testing.T) {
	edges := append(noTimes(), fewTimes()...)
	for _, from := range edges {
		for _, to := range edges {
			wantRightWith(t, ofA(from, to), 0 <= from && from < to && to <= last)
		}
	}
}

// P14.1: Right: From as To, one less, and one more.
func TestRightByOrderOfTimes(t *testing.T) {
	for _, to := range fewTimes() {
		wantRightWith(t, ofA(to, to), false)
		wantRightWith(t, ofA(to-1, to), to > 0)
		wantRightWith(t, ofA(to+1, to), false)
	}
}

// P14.1 and R3: Right, by how many matchers one of them has.
func TestRightByHowManyMatchers(t *testing.T) {
	for n := range 12 {
		wantRightWith(t, quiet(2, 5, fewMatchers()[:n]...), 1 <= n && n <= 4)
		wantRightWith(t, quiet(2, 5, slices.Repeat(fewMatchers()[3:4], n)...), 1 <= n && n <= 4)
	}
	wantRightWith(t, api.Hush{From: 2, To: 5}, false)
	wantRightWith(t, api.Hush{From: 2, To: 5, Asked: []api.Matcher{}}, false)
	wantRightWith(t, api.Hush{From: 2, To: 5, Asked: fewMatchers()[:0]}, false)
	wantRightWith(t, api.Hush{}, false)
}

// P14.1: Right, by one matcher at each place of 1 to 4.
func TestRightByMatcher(t *testing.T) {
	try := func(m api.Matcher, want bool) {
		for n := 1; n <= 4; n++ {
			for place := range n {
				ms := slices.Repeat([]api.Matcher{asks(is, "a", "x")}, n)
				ms[place] = m
				wantRightWith(t, quiet(2, 5, ms...), want)
			}
		}
	}
	for _, m := range fewMatchers() {
		try(m, true)
	}
	for _, m := range noMatchers() {
		try(m, false)
	}
	for kind := -5; kind < 10; kind++ {
		try(asks(kind, "a", ""), 0 <= kind && kind <= 3)
		try(asks(kind, "a", "x"), 0 <= kind && kind <= 2)
	}
}

// P14.1 and R5: Right, by each of the 256 bytes in a matcher's Name and in its Value, and by how long these are.
func TestRightByBytes(t *testing.T) {
	for b := range 256 {
		one := string([]byte{byte(b)})
		for _, text := range []string{one, "a" + one, one + "a", "abc" + one + "def"} {
			for kind := range 4 {
				for _, m := range []api.Matcher{asks(kind, text, ""), asks(kind, "a", text)} {
					wantRight(t, all(quiet(2, 5, m)), isMatcher(m))
				}
			}
		}
	}
	for n := range 300 {
		text := strings.Repeat("a", n)
		wantRight(t, all(quiet(2, 5, asks(is, text, ""))), 1 <= n && n <= 8)
		wantRight(t, all(quiet(2, 5, asks(is, "a", text))), n <= 8)
		wantRight(t, all(quiet(2, 5, asks(has, "a", text))), n == 0)
	}
}

// orders are all orders of some.
func orders(l []api.Hush) [][]api.Hush {
	if len(l) == 0 {
		return [][]api.Hush{nil}
	}
	var some [][]api.Hush
	for i, first := range l {
		for _, others := range orders(slices.Concat(l[:i], l[i+1:])) {
			some = append(some, append(all(first), others...))
		}
	}
	return some
}

// P14.1: Right: hushes may stand in any order, and two of them may be one.
func TestRightInAnyOrder(t *testing.T) {
	five := all(ofA(2, 5), ofB(5, 9), ofA(0, last), quiet(3, 4, fewMatchers()[:4]...), ofA(2, 5))
	for _, row := range orders(five) {
		wantRight(t, row, true)
		wantRight(t, append(row, row[:3]...), true)
		wantRight(t, append(row, row[:4]...), false)
	}
	for _, row := range orders(append(five[:4:4], ofA(5, 5))) {
		wantRight(t, row, false)
	}
}

// P14.1: Right of many rows.
func TestRightOfMany(t *testing.T) {
	for _, l := range rows() {
		wantRight(t, l, true)
	}
	for _, l := range noRows() {
		wantRight(t, l, false)
	}
}

// P14.1: Add: ErrArg of rows that are none, of a hush that may not be, of a now that is no time.
func TestAddOfWhatMayNotBe(t *testing.T) {
	for _, no := range noRows() {
		wantNoAdd(t, no, ofA(2, 5), 3, api.ErrArg)
		wantNoAdd(t, no, ofB(0, last), 0, api.ErrArg)
	}
	for _, no := range noHushes() {
		wantNoAdd(t, nil, no, 3, api.ErrArg)
		wantNoAdd(t, hushes(2, 5, 5, 9), no, 0, api.ErrArg)
	}
	for _, no := range noTimes() {
		wantNoAdd(t, nil, ofA(2, 5), no, api.ErrArg)
		wantNoAdd(t, nil, ofA(0, last), no, api.ErrArg)
		wantNoAdd(t, hushes(2, 5, 5, 9), ofA(last-1, last), no, api.ErrArg)
	}
}

// P14.1: Add: each two at once, and all three, that may not be; and ahead of ErrRange and of ErrFull, too.
func TestAddOfTwoThatMayNotBe(t *testing.T) {
	full := slices.Repeat(hushes(0, last), maxHushes)
	nows := append(noTimes(), 0, 3, last)
	for _, now := range nows {
		for _, no := range noHushes() {
			wantNoAdd(t, full, no, now, api.ErrArg)
			for _, l := range noRows()[:60] {
				wantNoAdd(t, l, no, now, api.ErrArg)
			}
		}
		for _, l := range noRows() {
			for _, h := range all(ofA(0, 1), ofA(2, 5), ofA(0, last)) {
				wantNoAdd(t, l, h, now, api.ErrArg)
			}
		}
	}
	for _, no := range noTimes() {
		for _, h := range fewHushes() {
			wantNoAdd(t, full, h, no, api.ErrArg)
		}
	}
}

// P14.1: Add: nine hushes are too many, be they over or not.
func TestAddToNine(t *testing.T) {
	for over := range 10 {
		l := append(slices.Repeat(hushes(0, 1), over), slices.Repeat(hushes(0, 9), 9-over)...)
		wantNoAdd(t, l, ofA(5, 9), 3, api.ErrArg)
		wantNoAdd(t, l, ofA(0, 1), 3, api.ErrArg)
	}
}

// P14.1: Active, Free: ErrArg of rows that are none, of labels that may not be, of a now that is no time; of each two at once, and of all three.
func TestAskedOfWhatMayNotBe(t *testing.T) {
	badRows, badLabels, badTimes := noRows(), noLabels(), noTimes()
	for _, l := range append(badLabels, fewLabels()...) {
		for _, now := range append(badTimes, fewTimes()...) {
			for _, hs := range append(badRows[:60:60], rows()[:12]...) {
				if !areHushes(hs) || !areLabels(l) || !isTime(now) {
					wantNotAsked(t, hs, l, now)
				} else {
					wantAsked(t, hs, l, now)
				}
			}
		}
	}
	for _, hs := range badRows {
		wantNotAsked(t, hs, labels("a", "x"), 3)
		wantNotAsked(t, hs, labels("b", "x", "a", "x"), 3)
		wantNotAsked(t, hs, labels("a", "x"), last+1)
	}
	for _, l := range badLabels {
		wantNotAsked(t, nil, l, 3)
		wantNotAsked(t, hushes(5, 9), l, 3)
		wantNotAsked(t, hushes(2, 5, 5, 9), l, 3)
	}
	for _, now := range badTimes {
		wantNotAsked(t, nil, labels("a", "x"), now)
		wantNotAsked(t, hushes(0, last), labels("a", "x"), now)
	}
}

// P14.1 and R5: Active, Free, by each of the 256 bytes in a label's Name and in its Value.
func TestAskedByBytes(t *testing.T) {
	for b := range 256 {
		one := string([]byte{byte(b)})
		for _, text := range []string{one, "a" + one, one + "a"} {
			for _, l := range [][]api.Label{labels(text, ""), labels("a", text), labels("a", "x", "b", text)} {
				if areLabels(l) {
					wantAsked(t, hushes(2, 5), l, 3)
				} else {
					wantNotAsked(t, hushes(2, 5), l, 3)
				}
			}
		}
	}
}

// P14.2: Add: ErrRange of a hush whose To is ahead of now, and is now; not of one whose To is one behind it; whenever it begins.
func TestAddAroundNow(t *testing.T) {
	for _, now := range fewTimes() {
		for _, from := range fewTimes() {
			for to := now - 3; to <= now+3; to++ {
				switch h := ofA(from, to); {
				case from >= to || to < 0 || to > last:
					wantNoAdd(t, hushes(2, 5), h, now, api.ErrArg)
				case to <= now:
					wantNoAdd(t, nil, h, now, api.ErrRange)
					wantNoAdd(t, hushes(0, last), h, now, api.ErrRange)
				default:
					wantAdd(t, nil, h, now, h)
					wantAdd(t, all(ofB(0, last)), h, now, ofB(0, last), h)
				}
			}
		}
	}
}

// P14.2: Add, written out.
func TestAdd(t *testing.T) {
	wantAdd(t, nil, ofA(2, 5), 0, ofA(2, 5))
	wantAdd(t, []api.Hush{}, ofA(2, 5), 4, ofA(2, 5))
	wantNoAdd(t, nil, ofA(2, 5), 5, api.ErrRange)
	wantNoAdd(t, nil, ofA(2, 5), 6, api.ErrRange)
	wantAdd(t, nil, ofA(7, 9), 3, ofA(7, 9))
	wantAdd(t, nil, ofA(0, 1), 0, ofA(0, 1))
	wantNoAdd(t, nil, ofA(0, 1), 1, api.ErrRange)
	wantAdd(t, nil, ofA(last-1, last), last-1, ofA(last-1, last))
	wantNoAdd(t, nil, ofA(0, last), last, api.ErrRange)
	wantAdd(t, hushes(2, 5), ofA(5, 9), 4, hushes(2, 5, 5, 9)...)
	wantAdd(t, hushes(2, 5), ofA(5, 9), 5, hushes(5, 9)...)
	wantAdd(t, hushes(2, 5), ofA(5, 9), 6, hushes(5, 9)...)
	wantAdd(t, hushes(5, 9), ofA(2, 5), 3, hushes(5, 9, 2, 5)...)
	wantAdd(t, hushes(9, 10, 0, 3, 5, 6, 1, 4, 4, 5), ofA(0, 8), 4, hushes(9, 10, 5, 6, 4, 5, 0, 8)...)
	wantAdd(t, all(ofB(3, 4), ofA(3, 4), ofB(0, 9)), ofA(0, 9), 4, ofB(0, 9), ofA(0, 9))
}

// unlike are so many hushes, no two of which are one; those are over at 100 whose bit is set.
func unlike(n, over int) []api.Hush {
	var l []api.Hush
	for i := range n {
		to := 101 + i
		if over>>i&1 == 1 {
			to = 100 - i
		}
		l = append(l, quiet(20-i, to, asks(is, "a", letters[i:i+1])))
	}
	return l
}

// P14.2: Add: of up to 8 hushes each choice of some is over: all, none, the first, the last, some in between; ErrFull only where none of 8 is.
func TestAddTakesOutWhatIsOver(t *testing.T) {
	for n := range maxHushes + 1 {
		for over := range 1 << n {
			l := unlike(n, over)
			for _, h := range all(ofB(7, 101), ofB(500, last), ofB(0, last)) {
				wantAdded(t, l, h, 100)
			}
			wantNoAdd(t, l, ofB(7, 100), 100, api.ErrRange)
			wantNoAdd(t, l, ofB(7, 8), 100, api.ErrRange)
		}
	}
	eight := unlike(8, 0)
	wantNoAdd(t, eight, ofB(7, 101), 100, api.ErrFull)
	wantAdd(t, unlike(8, 255), ofB(7, 101), 100, ofB(7, 101))
	wantAdd(t, unlike(8, 1), ofB(7, 101), 100, append(eight[1:8:8], ofB(7, 101))...)
	wantAdd(t, unlike(8, 128), ofB(7, 101), 100, append(eight[:7:7], ofB(7, 101))...)
	wantAdd(t, unlike(8, 0b00111100), ofB(7, 101), 100, eight[0], eight[1], eight[6], eight[7], ofB(7, 101))
}

// P14.2: Add: ErrFull, by how many there are together, with some of them over and with none.
func TestAddToMany(t *testing.T) {
	for n := range maxHushes + 1 {
		for over := range n + 1 {
			stays := slices.Repeat(hushes(5, 9), n-over)
			l := append(slices.Repeat(hushes(0, 3), over), stays...)
			if len(stays)+1 <= 8 {
				wantAdd(t, l, ofB(3, 9), 3, append(stays, ofB(3, 9))...)
			} else {
				wantNoAdd(t, l, ofB(3, 9), 3, api.ErrFull)
			}
		}
	}
	wantNoAdd(t, slices.Repeat(hushes(5, 9), 8), ofA(5, 9), 0, api.ErrFull)
	wantNoAdd(t, slices.Repeat(hushes(5, 9), 8), ofB(0, last), 8, api.ErrFull)
	wantAdd(t, slices.Repeat(hushes(5, 9), 8), ofB(0, last), 9, ofB(0, last))
}

// P14.2: Add: ErrRange comes ahead of ErrFull.
func TestAddOfOneThatIsOverToEight(t *testing.T) {
	full := slices.Repeat(hushes(0, last), maxHushes)
	for _, now := range fewTimes()[1:] {
		wantNoAdd(t, full, ofA(0, now), now, api.ErrRange)
		wantNoAdd(t, full, ofA(0, 1), now, api.ErrRange)
		if now < last {
			wantNoAdd(t, full, ofA(0, now+1), now, api.ErrFull)
		}
	}
}

// P14.2: Add: the same hush may come again, till there are eight.
func TestAddTheSame(t *testing.T) {
	for _, h := range fewHushes() {
		var l []api.Hush
		for n := range maxHushes {
			wantAdd(t, l, h, h.To-1, slices.Repeat(all(h), n+1)...)
			l = append(l, h)
		}
		wantNoAdd(t, l, h, h.To-1, api.ErrFull)
		wantNoAdd(t, l, h, h.To, api.ErrRange)
	}
}

// P14.2: Add of many.
func TestAddOfMany(t *testing.T) {
	nows := append(fewTimes(), 3, 4, 5, 6, 8, 9)
	for _, l := range rows() {
		for _, h := range fewHushes() {
			for _, now := range nows {
				wantAdded(t, l, h, now)
			}
		}
	}
}

// P14.2: Add, one behind the other, as time goes by: what was answered is handed again.
func TestAddInRows(t *testing.T) {
	r := source()
	fulls := 0
	for range 300 {
		var l []api.Hush
		for now := 0; now < 200; now += r.IntN(4) {
			from := r.IntN(200)
			h := quiet(from, from+1+r.IntN(40), fewMatchers()[r.IntN(12)])
			wantAdded(t, l, h, now)
			row, why := hush.Add(l, h, now)
			if why == api.OK {
				l = row
			}
			if why == api.ErrFull {
				fulls++
			}
		}
	}
	if fulls < 100 {
		t.Errorf("only %d times there were eight", fulls)
	}
}
