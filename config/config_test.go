package config_test

import (
	"math"
	"math/big"
	"math/rand/v2"
	"slices"
	"strings"
	"testing"

	"foghorn/api"
	"foghorn/config"
)

const (
	maxBase   = 1 << 20
	maxWait   = 1 << 30
	maxNumber = 1 << 40

	letters = "abcdefghijklmnopqrstuvwxyz"
	inValue = letters + "0123456789-"
)

// A seed that stays the same: a run that fails fails again.
func source() *rand.Rand {
	return rand.New(rand.NewPCG(26, 27))
}

// receiver has its numbers in the order of its line: Base, Top, Jitter, Tries, Fails, Open, Burst, Every.
func receiver(name string, n ...int) api.Receiver {
	return api.Receiver{Name: name, Back: api.Back{Base: n[0], Top: n[1], Jitter: n[2]}, Tries: n[3], Fails: n[4], Open: n[5], Burst: n[6], Every: n[7]}
}

// named is a receiver that may be, if its Name may.
func named(name string) api.Receiver {
	return receiver(name, 1, 8, 0, 3, 5, 10, 2, 4)
}

func receivers(names ...string) []api.Receiver {
	var l []api.Receiver
	for _, name := range names {
		l = append(l, named(name))
	}
	return l
}

func chain(places ...int) []int {
	return places
}

func route(chain []int, asked ...api.Matcher) api.Route {
	return api.Route{Chain: chain, Asked: asked}
}

func asks(kind int, name, value string) api.Matcher {
	return api.Matcher{Kind: kind, Name: name, Value: value}
}

// small is the chapter's example.
func small() api.Config {
	return api.Config{Receivers: receivers("a"), Routes: []api.Route{route(chain(0))}, Repeat: 60, Beat: 30}
}

// some has so many receivers, and a route of the first of them.
func some(receivers ...api.Receiver) api.Config {
	return api.Config{Receivers: receivers, Routes: []api.Route{route(chain(0))}, Repeat: 60, Beat: 30}
}

// routed has four receivers, and these routes.
func routed(routes ...api.Route) api.Config {
	return api.Config{Receivers: receivers("a", "b", "c", "d"), Routes: routes, Repeat: 60, Beat: 30}
}

// full has as much as may be of all.
func full() api.Config {
	return api.Config{
		Receivers: []api.Receiver{
			receiver("duty", 1, 1, 0, 1, 1, 1, 1, 1),
			receiver("abcdefgh", maxBase, maxWait, maxBase, 100, 100, maxBase, 100, maxBase),
			receiver("z", 2, 9, 3, 50, 2, 1000, 10, 99),
			receiver("iff", 10, 10, 1, 9, 10, 11, 99, 100),
		},
		Routes: []api.Route{
			route(chain(3, 1, 0, 2), asks(0, "a", "db"), asks(1, "z", "eu-1"), asks(2, "zone", "e"), asks(3, "abcdefgh", "")),
			route(chain(2), asks(0, "if", "if"), asks(0, "if", "if")),
			route(chain(0, 3), asks(2, "a", "")),
			route(chain(1, 2, 3)),
		},
		Repeat: maxWait,
		Beat:   1,
	}
}

// fullText is full, written out.
const fullText = `receiver duty 1 1 0 1 1 1 1 1
receiver abcdefgh 1048576 1073741824 1048576 100 100 1048576 100 1048576
receiver z 2 9 3 50 2 1000 10 99
receiver iff 10 10 1 9 10 11 99 100
route iff abcdefgh duty z if a=db z!eu-1 zone^e abcdefgh?
route z if if=if if=if
route duty iff if a^
route abcdefgh z iff if
repeat 1073741824
beat 1
`

const smallText = `receiver a 1 8 0 3 5 10 2 4
route a if
repeat 60
beat 30
`

// copyOf shares nothing with the config.
func copyOf(c api.Config) api.Config {
	c.Receivers = slices.Clone(c.Receivers)
	c.Routes = slices.Clone(c.Routes)
	for i := range c.Routes {
		c.Routes[i].Chain = slices.Clone(c.Routes[i].Chain)
		c.Routes[i].Asked = slices.Clone(c.Routes[i].Asked)
	}
	return c
}

// isSame holds a nil list for an empty one.
func isSame(a, b api.Config) bool {
	return a.Repeat == b.Repeat && a.Beat == b.Beat && slices.Equal(a.Receivers, b.Receivers) && slices.EqualFunc(a.Routes, b.Routes, isSameRoute)
}

func isSameRoute(a, b api.Route) bool {
	return slices.Equal(a.Chain, b.Chain) && slices.Equal(a.Asked, b.Asked)
}

// onlyOf asks byte by byte whether a text is least to 8 of those that may stand in it.
func onlyOf(text, these string, least int) bool {
	for i := range len(text) {
		if strings.IndexByte(these, text[i]) < 0 {
			return false
		}
	}
	return len(text) >= least && len(text) <= 8
}

func isMatcher(m api.Matcher) bool {
	return 0 <= m.Kind && m.Kind <= 3 && onlyOf(m.Name, letters, 1) && onlyOf(m.Value, inValue, 0) && (m.Kind != 3 || m.Value == "")
}

// isReceiver is what the chapters say of a name, a back, a breaker and a bucket.
func isReceiver(r api.Receiver) bool {
	return onlyOf(r.Name, letters, 1) && r.Name != "if" &&
		1 <= r.Back.Base && r.Back.Base <= maxBase && r.Back.Base <= r.Back.Top && r.Back.Top <= maxWait && 0 <= r.Back.Jitter && r.Back.Jitter <= maxBase &&
		1 <= r.Tries && r.Tries <= 100 &&
		1 <= r.Fails && r.Fails <= 100 && 1 <= r.Open && r.Open <= maxBase &&
		1 <= r.Burst && r.Burst <= 100 && 1 <= r.Every && r.Every <= maxBase
}

// isRoute holds each place against each other one.
func isRoute(r api.Route, n int) bool {
	may := len(r.Chain) >= 1 && len(r.Chain) <= 4 && len(r.Asked) <= 4
	for i, place := range r.Chain {
		may = may && 0 <= place && place < n
		for j, other := range r.Chain {
			may = may && (i == j || place != other)
		}
	}
	for _, m := range r.Asked {
		may = may && isMatcher(m)
	}
	return may
}

// mayBe is what the chapter says of a config.
func mayBe(c api.Config) bool {
	n, k := len(c.Receivers), len(c.Routes)
	may := 1 <= n && n <= 4 && 1 <= k && k <= 4 && 1 <= c.Repeat && c.Repeat <= maxWait && 1 <= c.Beat && c.Beat <= maxWait
	for i, one := range c.Receivers {
		may = may && isReceiver(one)
		for j, other := range c.Receivers {
			may = may && (i == j || one.Name != other.Name)
		}
	}
	for _, one := range c.Routes {
		may = may && isRoute(one, n)
	}
	return may
}

// digits are those of a number without a sign.
func digits(n int) string {
	return big.NewInt(int64(n)).String()
}

// textOfMatcher is what stands in a line, of matchers that may be.
func textOfMatcher(m api.Matcher) string {
	return m.Name + "=!^?"[m.Kind:m.Kind+1] + m.Value
}

// lineOfReceiver has no byte 10 at its end.
func lineOfReceiver(r api.Receiver) string {
	text := "receiver " + r.Name
	for _, n := range []int{r.Back.Base, r.Back.Top, r.Back.Jitter, r.Tries, r.Fails, r.Open, r.Burst, r.Every} {
		text += " " + digits(n)
	}
	return text
}

func lineOfRoute(r api.Route, l []api.Receiver) string {
	text := "route"
	for _, place := range r.Chain {
		text += " " + l[place].Name
	}
	text += " if"
	for _, m := range r.Asked {
		text += " " + textOfMatcher(m)
	}
	return text
}

// linesOf is what the chapter says of a config that may be, line by line.
func linesOf(c api.Config) []string {
	var l []string
	for _, one := range c.Receivers {
		l = append(l, lineOfReceiver(one))
	}
	for _, one := range c.Routes {
		l = append(l, lineOfRoute(one, c.Receivers))
	}
	return append(l, "repeat "+digits(c.Repeat), "beat "+digits(c.Beat))
}

// text ends each line by a byte 10.
func text(lines ...string) string {
	all := ""
	for _, line := range lines {
		all += line + "\n"
	}
	return all
}

func wantRight(t *testing.T, c api.Config, want bool) {
	t.Helper()
	if got := config.Right(c); got != want {
		t.Errorf("Right(%+v) = %v", c, got)
	}
}

func wantPrint(t *testing.T, c api.Config, want string) {
	t.Helper()
	if got, why := config.Print(c); got != want || why != api.OK {
		t.Errorf("Print(%+v) = %q, %d, want %q", c, got, why, want)
	}
}

func wantNoPrint(t *testing.T, c api.Config) {
	t.Helper()
	if got, why := config.Print(c); got != "" || why != api.ErrArg {
		t.Errorf("Print(%+v) = %q, %d, want %d and the empty text beside it", c, got, why, api.ErrArg)
	}
}

// wantMay holds Right and Print against what is expected, and that against what the chapter says; what is printed is parsed as it was.
func wantMay(t *testing.T, c api.Config, want bool) {
	t.Helper()
	if mayBe(c) != want {
		t.Fatalf("the chapter does not say %v of %+v", want, c)
	}
	wantRight(t, c, want)
	if !want {
		wantNoPrint(t, c)
		return
	}
	wantPrint(t, c, text(linesOf(c)...))
	wantParse(t, text(linesOf(c)...), c)
}

// wantConfig is wantMay with nothing expected but what the chapter says.
func wantConfig(t *testing.T, c api.Config) {
	t.Helper()
	wantMay(t, c, mayBe(c))
}

// The limits are those that api names.
func TestLimits(t *testing.T) {
	if api.MaxReceivers != 4 || api.MaxRoutes != 4 || api.MaxChain != 4 || api.MaxTries != 100 || api.MaxAsked != 4 || api.MaxName != 8 {
		t.Fatalf("MaxReceivers %d, MaxRoutes %d, MaxChain %d, MaxTries %d, MaxAsked %d, MaxName %d", api.MaxReceivers, api.MaxRoutes, api.MaxChain, api.MaxTries, api.MaxAsked, api.MaxName)
	}
	if api.MaxWait != maxWait || api.MaxBase != maxBase || api.MaxTick != maxNumber || api.MaxFails != 100 || api.MaxBurst != 100 {
		t.Fatalf("MaxWait %d, MaxBase %d, MaxTick %d, MaxFails %d, MaxBurst %d", api.MaxWait, api.MaxBase, api.MaxTick, api.MaxFails, api.MaxBurst)
	}
}

// P13.1: Print's texts, written out.
func TestPrint(t *testing.T) {
	for _, c := range []struct {
		c    api.Config
		want string
	}{
		{small(), smallText},
		{full(), fullText},
		{
			api.Config{Receivers: []api.Receiver{receiver("ops", maxBase, maxBase, maxBase, 100, 1, maxBase, 1, maxBase)}, Routes: []api.Route{route(chain(0), asks(3, "a", ""))}, Repeat: 1, Beat: maxWait},
			"receiver ops 1048576 1048576 1048576 100 1 1048576 1 1048576\nroute ops if a?\nrepeat 1\nbeat 1073741824\n",
		},
		{
			api.Config{Receivers: receivers("b", "a"), Routes: []api.Route{route(chain(1, 0), asks(1, "b", "")), route(chain(0, 1), asks(0, "repeat", "1"), asks(0, "beat", "2"), asks(0, "route", "a"))}, Repeat: 10, Beat: 100},
			"receiver b 1 8 0 3 5 10 2 4\nreceiver a 1 8 0 3 5 10 2 4\nroute a b if b!\nroute b a if repeat=1 beat=2 route=a\nrepeat 10\nbeat 100\n",
		},
		{
			api.Config{Receivers: receivers("receiver", "route", "repeat", "beat"), Routes: []api.Route{route(chain(1, 0, 3, 2)), route(chain(1, 0, 3, 2))}, Repeat: 999999999, Beat: 1000000000},
			"receiver receiver 1 8 0 3 5 10 2 4\nreceiver route 1 8 0 3 5 10 2 4\nreceiver repeat 1 8 0 3 5 10 2 4\nreceiver beat 1 8 0 3 5 10 2 4\nroute route receiver beat repeat if\nroute route receiver beat repeat if\nrepeat 999999999\nbeat 1000000000\n",
		},
	} {
		wantMay(t, c.c, true)
		wantPrint(t, c.c, c.want)
		wantParse(t, c.want, c.c)
	}
}

// P13.1 and R3: how many receivers there are: 1 to 4.
func TestRightByHowManyReceivers(t *testing.T) {
	names := []string{"a", "b", "c", "d", "e", "f", "g"}
	for n := range len(names) + 1 {
		wantMay(t, some(receivers(names[:n]...)...), n >= 1 && n <= 4)
	}
	for _, l := range [][]api.Receiver{nil, {}, make([]api.Receiver, 0, 4), make([]api.Receiver, 1), make([]api.Receiver, 4), make([]api.Receiver, 5)} {
		wantMay(t, some(l...), false)
		wantMay(t, api.Config{Receivers: l, Repeat: 1, Beat: 1}, false)
		wantMay(t, api.Config{Receivers: l, Routes: []api.Route{{}}, Repeat: 1, Beat: 1}, false)
	}
	wantMay(t, api.Config{}, false)
}

// P13.1: two receivers of one Name, at each two places of two to four, and more of them; all else of them may be unlike.
func TestRightByTwins(t *testing.T) {
	names := []string{"ab", "a", "abc", "b"}
	for n := range 5 {
		for i := range n {
			for j := range n {
				l := receivers(names[:n]...)
				l[j].Name = l[i].Name
				wantMay(t, some(l...), i == j)
				l[j].Back.Top, l[j].Tries, l[j].Every = 9, 4, 5
				wantMay(t, some(l...), i == j)
			}
		}
	}
	wantMay(t, some(receivers("a", "a", "a")...), false)
	wantMay(t, some(receivers("a", "b", "b", "a")...), false)
	wantMay(t, some(receivers("a", "a", "a", "a")...), false)
	wantMay(t, some(receivers("b", "a", "aa", "ba")...), true)
}

// oddTexts may stand in no name: blanks, capital letters, digits, signs, bytes of other writings, and bytes that are no text in UTF-8.
func oddTexts() []string {
	return []string{
		" ", "\t", "\n", "\r", "\v", "\x00", "\x7f", "_", ".", ",", "/", ":", "@", "`", "{", "[", "~", "+", "#", "-", "=", "!", "^", "?", "0", "1", "9",
		"A", "M", "Z", "ä", "é", "ａ", "а", "\u0085", "\u00a0", "\ufeff", "１", "𝐚", "\x80", "\xff", "\xc3", "\xe1", "\xed\xa0\x80", "\ufffd",
	}
}

func goodNames() []string {
	return []string{"a", "z", "m", "i", "f", "fi", "ii", "ff", "iff", "iif", "ifa", "aif", "abcdefg", "abcdefgh", "ijklmnop", "qrstuvwx", "yz", "zzzzzzzz", "receiver", "route", "repeat", "beat"}
}

func badNames() []string {
	l := []string{"", "if", "If", "iF", "IF", "if ", " if", "abcdefghi", "receivers", "zzzzzzzzzzzzzzzz", strings.Repeat("a", 256), strings.Repeat("a", 257)}
	for _, odd := range oddTexts() {
		l = append(l, odd, odd+"a", "a"+odd, "a"+odd+"b", "abcdefg"+odd)
	}
	return l
}

// P13.1: Names, at each place of one to four receivers.
func TestRightByNames(t *testing.T) {
	for n := range 4 {
		for place := range n + 1 {
			l := receivers([]string{"p", "q", "r"}[:n]...)
			for _, name := range goodNames() {
				wantMay(t, some(slices.Insert(slices.Clone(l), place, named(name))...), true)
			}
			for _, name := range badNames() {
				wantMay(t, some(slices.Insert(slices.Clone(l), place, named(name))...), false)
			}
		}
	}
}

// P13.1: each of the 256 bytes at each place of short Names and of a long one.
func TestRightByBytesOfNames(t *testing.T) {
	for b := range 256 {
		one := string([]byte{byte(b)})
		may := b >= 'a' && b <= 'z'
		for _, name := range []string{one, "x" + one, one + "x", "x" + one + "y", "abcdefg" + one, one + "bcdefgh", "abc" + one + "efgh"} {
			wantMay(t, some(named(name)), may)
		}
		wantMay(t, some(named("i"+one)), may && one != "f")
		wantMay(t, some(named(one+"f")), may && one != "i")
		wantMay(t, some(named("abcdefgh"+one)), false)
	}
}

// edges are at the least and greatest of all that a receiver has, one and more beyond, and where a number has one bit more.
func edges() []int {
	return []int{
		math.MinInt, math.MinInt + 1, -1 << 40, -1 << 32, -2, -1, 0, 1, 2, 3, 50, 99, 100, 101, 102, 255, 256, 257,
		maxBase - 1, maxBase, maxBase + 1, 1 << 21, maxWait - 1, maxWait, maxWait + 1, 1 << 31, 1 << 32, 1<<32 + 1, 1<<32 + 100, maxNumber - 1, maxNumber, maxNumber + 1, 1 << 62, math.MaxInt - 1, math.MaxInt,
	}
}

// P13.1: a Back, each Base with each Top and each Jitter of some.
func TestRightByBacks(t *testing.T) {
	for _, base := range edges() {
		for _, top := range edges() {
			for _, jitter := range []int{math.MinInt, -1, 0, 1, maxBase - 1, maxBase, maxBase + 1, math.MaxInt} {
				may := 1 <= base && base <= min(top, maxBase) && top <= maxWait && 0 <= jitter && jitter <= maxBase
				wantMay(t, some(receiver("a", base, top, jitter, 3, 5, 10, 2, 4)), may)
			}
		}
	}
	for _, jitter := range edges() {
		wantMay(t, some(receiver("a", 1, 8, jitter, 3, 5, 10, 2, 4)), 0 <= jitter && jitter <= maxBase)
	}
}

// P13.1: Tries, Fails, Open, Burst and Every, at each place of four receivers.
func TestRightByNumbers(t *testing.T) {
	for place := range 4 {
		for _, n := range edges() {
			for _, c := range []struct {
				set  func(r *api.Receiver)
				most int
			}{
				{func(r *api.Receiver) { r.Tries = n }, 100},
				{func(r *api.Receiver) { r.Fails = n }, 100},
				{func(r *api.Receiver) { r.Open = n }, maxBase},
				{func(r *api.Receiver) { r.Burst = n }, 100},
				{func(r *api.Receiver) { r.Every = n }, maxBase},
				{func(r *api.Receiver) { r.Back.Base, r.Back.Top = n, maxWait }, maxBase},
				{func(r *api.Receiver) { r.Back.Top = n }, maxWait},
			} {
				l := receivers("a", "b", "c", "d")
				c.set(&l[place])
				wantMay(t, some(l...), 1 <= n && n <= c.most)
			}
		}
	}
}

// P13.1: two numbers of a receiver at once: each has bounds of its own.
func TestRightByTwoNumbers(t *testing.T) {
	few := []int{0, 1, 100, 101, maxBase, maxBase + 1}
	for i := 3; i < 8; i++ {
		for j := 3; j < 8; j++ {
			for _, n := range few {
				for _, k := range few {
					numbers := []int{1, 8, 0, 3, 5, 10, 2, 4}
					numbers[i], numbers[j] = n, k
					wantConfig(t, some(receiver("a", numbers...)))
				}
			}
		}
	}
}

// P13.1 and R3: how many routes there are: 1 to 4, and two of them may be one.
func TestRightByHowManyRoutes(t *testing.T) {
	l := []api.Route{route(chain(0)), route(chain(1)), route(chain(2, 1)), route(chain(3, 0, 1)), route(chain(0, 1, 2, 3)), route(chain(3)), route(chain(1))}
	for n := range len(l) + 1 {
		wantMay(t, routed(l[:n]...), n >= 1 && n <= 4)
		wantMay(t, routed(slices.Repeat(l[:1], n)...), n >= 1 && n <= 4)
	}
	wantMay(t, routed([]api.Route{}...), false)
	wantMay(t, routed(make([]api.Route, 0, 4)...), false)
}

// chains are all rows of up to n of these places.
func chains(places []int, n int) [][]int {
	l := [][]int{{}}
	for from := 0; n > 0; n-- {
		end := len(l)
		for _, row := range l[from:end] {
			for _, place := range places {
				l = append(l, append(slices.Clone(row), place))
			}
		}
		from = end
	}
	return l
}

// P13.1: all chains of up to five places, from one ahead of the first one to one behind the last one, of one to four receivers.
func TestRightByChains(t *testing.T) {
	names := []string{"a", "b", "c", "d"}
	for n := 1; n <= 4; n++ {
		for _, row := range chains([]int{-1, 0, 1, 2, 3, 4}, 5) {
			c := some(receivers(names[:n]...)...)
			c.Routes = []api.Route{route(row)}
			wantConfig(t, c)
		}
	}
}

// P13.1 and R3: a Chain, written out: no place, too many, places far beyond, and two that are one.
func TestRightByChain(t *testing.T) {
	for _, c := range []struct {
		chain []int
		want  bool
	}{
		{nil, false}, {chain(), false}, {make([]int, 0, 4), false}, {chain(0), true}, {chain(3), true}, {chain(4), false}, {chain(-1), false},
		{chain(math.MinInt), false}, {chain(math.MaxInt), false}, {chain(1 << 32), false}, {chain(256), false}, {chain(0, 1<<32+1), false},
		{chain(0, 1), true}, {chain(1, 0), true}, {chain(0, 0), false}, {chain(3, 3), false}, {chain(0, 4), false}, {chain(-1, 0), false},
		{chain(2, 1, 3), true}, {chain(2, 1, 2), false}, {chain(1, 2, 2), false}, {chain(2, 2, 1), false},
		{chain(0, 1, 2, 3), true}, {chain(3, 2, 1, 0), true}, {chain(0, 1, 2, 0), false}, {chain(0, 1, 1, 3), false}, {chain(0, 1, 2, 4), false}, {chain(0, 1, 2, -1), false},
		{chain(0, 1, 2, 3, 0), false}, {chain(0, 1, 2, 3, 4), false}, {chain(0, 0, 0, 0, 0), false}, {make([]int, 1000), false},
	} {
		wantMay(t, routed(route(c.chain)), c.want)
	}
}

// fewMatchers may be.
func fewMatchers() []api.Matcher {
	return []api.Matcher{
		asks(0, "a", "x"), asks(0, "zone", ""), asks(0, "abcdefgh", "0-9-a-z-"), asks(1, "a", "x"), asks(1, "b", ""), asks(1, "abcdefgh", "12345678"),
		asks(2, "z", "eu"), asks(2, "a", ""), asks(2, "abcdefgh", "--------"), asks(3, "a", ""), asks(3, "abcdefgh", ""), asks(3, "if", ""),
	}
}

// noMatchers may not be.
func noMatchers() []api.Matcher {
	l := []api.Matcher{
		{}, asks(-1, "a", "x"), asks(4, "a", "x"), asks(4, "a", ""), asks(math.MinInt, "a", ""), asks(math.MaxInt, "a", ""), asks(1<<32, "a", "x"), asks(256, "a", ""), asks('=', "a", "x"),
		asks(3, "a", "x"), asks(3, "abcdefgh", "-"),
	}
	for kind := range 4 {
		for _, name := range []string{"", "A", "a1", "-", "abcdefghi", "ä", "a=", "a b", "a\n", "\xff"} {
			l = append(l, asks(kind, name, ""))
		}
		for _, value := range []string{"X", "abcdefghi", "x_", "x y", " ", "\n", "=", "?", "ä", "\xff"} {
			l = append(l, asks(kind, "a", value))
		}
	}
	return l
}

// P13.1 and R3: how many matchers a route has: 4 at most, and two of them may be one.
func TestRightByHowManyAsked(t *testing.T) {
	ms := fewMatchers()
	for n := range len(ms) + 1 {
		wantMay(t, routed(route(chain(0), ms[:n]...)), n <= 4)
		wantMay(t, routed(route(chain(0), slices.Repeat(ms[:1], n)...)), n <= 4)
		wantMay(t, routed(route(chain(1)), route(chain(0), ms[:n]...)), n <= 4)
	}
	wantMay(t, routed(route(chain(0), []api.Matcher{}...)), true)
	wantMay(t, routed(route(chain(0), make([]api.Matcher, 0, 4)...)), true)
	wantMay(t, routed(route(chain(0), make([]api.Matcher, 1)...)), false)
}

// P13.1: a matcher that may not be, at each place of one to four, in each of four routes.
func TestRightByAsked(t *testing.T) {
	ms := fewMatchers()
	for n := range 4 {
		for place := range n + 1 {
			for at := range 4 {
				for _, m := range noMatchers() {
					wantMay(t, askedAt(at, slices.Insert(slices.Clone(ms[:n]), place, m)), false)
				}
				for _, m := range ms {
					wantMay(t, askedAt(at, slices.Insert(slices.Clone(ms[:n]), place, m)), true)
				}
			}
		}
	}
}

// askedAt has four routes, of which one asks that.
func askedAt(at int, ms []api.Matcher) api.Config {
	c := routed(route(chain(0)), route(chain(1), asks(3, "a", "")), route(chain(2)), route(chain(3)))
	c.Routes[at].Asked = ms
	return c
}

// P13.1: a route that may not be, at each place of one to four.
func TestRightByRoutes(t *testing.T) {
	good := []api.Route{route(chain(1)), route(chain(0, 2)), route(chain(3))}
	for n := range 4 {
		for place := range n + 1 {
			for _, one := range []api.Route{{}, route(chain(4)), route(chain(-1)), route(chain(0, 0)), route(chain(0, 1, 2, 3, 0)), route(chain(0), api.Matcher{}), route(chain(0), slices.Repeat(fewMatchers()[:1], 5)...)} {
				wantMay(t, routed(slices.Insert(slices.Clone(good[:n]), place, one)...), false)
			}
			wantMay(t, routed(slices.Insert(slices.Clone(good[:n]), place, route(chain(0)))...), true)
		}
	}
}

// P13.1: Repeat and Beat, each with each of some.
func TestRightByRepeatAndBeat(t *testing.T) {
	for _, repeat := range edges() {
		for _, beat := range edges() {
			c := small()
			c.Repeat, c.Beat = repeat, beat
			wantMay(t, c, 1 <= repeat && repeat <= maxWait && 1 <= beat && beat <= maxWait)
		}
	}
}

// P13.1: configs made of parts that may be and of such that may not, by chance.
func TestRightByChance(t *testing.T) {
	r := source()
	may := 0
	for range 20000 {
		c := anyConfig(r)
		if mayBe(c) {
			may++
		}
		wantConfig(t, c)
	}
	if may < 1000 || may > 19000 {
		t.Errorf("%d of 20000 may be", may)
	}
}

// anyConfig has, in one of two, something that may not be.
func anyConfig(r *rand.Rand) api.Config {
	c := goodConfig(r)
	if r.IntN(2) == 0 {
		return c
	}
	at, to := r.IntN(len(c.Receivers)), r.IntN(len(c.Routes))
	switch r.IntN(10) {
	case 0:
		c.Receivers[at].Name = badNames()[r.IntN(len(badNames()))]
	case 1:
		c.Receivers[at].Name = c.Receivers[0].Name
	case 2:
		c.Receivers[at].Back.Base = edges()[r.IntN(len(edges()))]
	case 3:
		c.Receivers[at].Tries = edges()[r.IntN(len(edges()))]
	case 4:
		c.Receivers[at].Open = edges()[r.IntN(len(edges()))]
	case 5:
		c.Receivers[at].Every = edges()[r.IntN(len(edges()))]
	case 6:
		c.Routes[to].Chain = append(c.Routes[to].Chain, r.IntN(6)-1)
	case 7:
		c.Routes[to].Asked = append(c.Routes[to].Asked, asks(r.IntN(5), "a", ""))
	case 8:
		c.Repeat = edges()[r.IntN(len(edges()))]
	case 9:
		c.Beat = edges()[r.IntN(len(edges()))]
	}
	return c
}

// goodConfig may be.
func goodConfig(r *rand.Rand) api.Config {
	c := api.Config{Repeat: 1 + r.IntN(maxWait), Beat: 1 + r.IntN(1000)}
	names := goodNames()
	r.Shuffle(len(names), func(i, j int) { names[i], names[j] = names[j], names[i] })
	for i := range 1 + r.IntN(4) {
		base := 1 + r.IntN(maxBase>>r.IntN(21))
		c.Receivers = append(c.Receivers, receiver(names[i], base, base+r.IntN(maxWait-base+1), r.IntN(maxBase+1)>>r.IntN(21), 1+r.IntN(100), 1+r.IntN(100), 1+r.IntN(maxBase), 1+r.IntN(100), 1+r.IntN(maxBase)))
	}
	for range 1 + r.IntN(4) {
		places := r.Perm(len(c.Receivers))
		c.Routes = append(c.Routes, route(places[:1+r.IntN(len(places))], goodMatchers(r)...))
	}
	return c
}

func goodMatchers(r *rand.Rand) []api.Matcher {
	var l []api.Matcher
	for range r.IntN(5) {
		l = append(l, fewMatchers()[r.IntN(len(fewMatchers()))])
	}
	return l
}

// P1: lists that are long, and numbers at both ends.
func TestRightOfLongLists(t *testing.T) {
	long := []api.Config{full(), full(), full(), full(), full()}
	long[0].Receivers = slices.Repeat(long[0].Receivers, 100000)
	long[1].Routes = slices.Repeat(long[1].Routes, 100000)
	long[2].Routes[1].Chain = make([]int, 1000000)
	long[3].Routes[1].Asked = slices.Repeat(long[3].Routes[1].Asked, 1000000)
	long[4].Receivers[2].Name = strings.Repeat("a", 1<<24)
	for i, c := range long {
		if text, why := config.Print(c); config.Right(c) || text != "" || why != api.ErrArg {
			t.Errorf("long %d: Print is %d, or Right is true", i, why)
		}
	}
	for _, n := range []int{math.MinInt, math.MaxInt} {
		c := small()
		c.Receivers[0] = receiver("a", n, n, n, n, n, n, n, n)
		wantMay(t, c, false)
		c.Routes[0].Chain = chain(n, n, n, n)
		c.Routes[0].Asked = []api.Matcher{asks(n, "", "")}
		c.Repeat, c.Beat = n, n
		wantMay(t, c, false)
	}
}

// P13.1, R1 and R4: no call changes a list that it was handed, not even behind its end, and a call answers the same, whatever was called ahead of it.
func TestListsStay(t *testing.T) {
	for _, one := range []api.Config{small(), full(), routed(), some(receivers("a", "a")...), routed(route(chain(0, 0))), routed(route(chain(0), api.Matcher{}))} {
		c := withRoom(one)
		was, may := withRoom(one), mayBe(one)
		for range 2 {
			wantRight(t, c, may)
			config.Print(c)
			config.Parse(smallText)
			if !isSame(beyond(c), beyond(was)) {
				t.Fatalf("%+v is %+v behind the calls", beyond(was), beyond(c))
			}
		}
		wantMay(t, c, may)
	}
}

// withRoom is the config in lists that have room behind their ends, with something in it.
func withRoom(c api.Config) api.Config {
	c = copyOf(c)
	for i := range c.Routes {
		c.Routes[i].Chain = append(c.Routes[i].Chain, 7, 8)[:len(c.Routes[i].Chain)]
		c.Routes[i].Asked = append(c.Routes[i].Asked, asks(3, "q", ""), asks(0, "r", "s"))[:len(c.Routes[i].Asked)]
	}
	c.Receivers = append(c.Receivers, named("y"), named("z"))[:len(c.Receivers)]
	c.Routes = append(c.Routes, route(chain(5), asks(3, "q", "")))[:len(c.Routes)]
	return c
}

// beyond is the config with what stands behind its lists' ends.
func beyond(c api.Config) api.Config {
	c.Receivers = c.Receivers[:len(c.Receivers)+2]
	c.Routes = slices.Clone(c.Routes[:len(c.Routes)+1])
	for i := range len(c.Routes) - 1 {
		c.Routes[i].Chain = c.Routes[i].Chain[:len(c.Routes[i].Chain)+2]
		c.Routes[i].Asked = c.Routes[i].Asked[:len(c.Routes[i].Asked)+2]
	}
	return c
}
