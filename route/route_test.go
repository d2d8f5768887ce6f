package route_test

import (
	"math"
	"math/rand/v2"
	"slices"
	"strings"
	"testing"

	"foghorn/api"
	"foghorn/config"
	"foghorn/route"
)

const (
	is, not, begins, has = 0, 1, 2, 3

	maxBase = 1 << 20
	maxWait = 1 << 30
)

// A seed that stays the same: a run that fails fails again.
func source() *rand.Rand {
	return rand.New(rand.NewPCG(30, 31))
}

// receiver has its numbers in this order: Base, Top, Jitter, Tries, Fails, Open, Burst, Every.
func receiver(name string, n ...int) api.Receiver {
	return api.Receiver{Name: name, Back: api.Back{Base: n[0], Top: n[1], Jitter: n[2]}, Tries: n[3], Fails: n[4], Open: n[5], Burst: n[6], Every: n[7]}
}

// named is a receiver that may be, if its Name may.
func named(name string) api.Receiver {
	return receiver(name, 1, 8, 0, 3, 5, 10, 2, 4)
}

func receivers(names ...string) []api.Receiver {
	var l []api.Receiver
	for _, name := range names {
		l = append(l, named(name))
	}
	return l
}

func chain(places ...int) []int {
	return places
}

func asks(kind int, name, value string) api.Matcher {
	return api.Matcher{Kind: kind, Name: name, Value: value}
}

func matchers(ms ...api.Matcher) []api.Matcher {
	return ms
}

// path is a route.
func path(chain []int, asked ...api.Matcher) api.Route {
	return api.Route{Chain: chain, Asked: asked}
}

// open asks nothing.
func open() api.Route {
	return path(chain(0))
}

// labels are of each two texts: a name, and its value.
func labels(texts ...string) []api.Label {
	var l []api.Label
	for i := 0; i < len(texts); i += 2 {
		l = append(l, api.Label{Name: texts[i], Value: texts[i+1]})
	}
	return l
}

// some has four receivers, and these routes.
func some(routes ...api.Route) api.Config {
	return api.Config{Receivers: receivers("a", "b", "c", "d"), Routes: routes, Repeat: 60, Beat: 30}
}

// asking has a route for each of these rows of matchers.
func asking(rows ...[]api.Matcher) api.Config {
	var routes []api.Route
	for i, ms := range rows {
		routes = append(routes, path(chain(i%4), ms...))
	}
	return some(routes...)
}

// small has one receiver and one route, that asks nothing.
func small() api.Config {
	return api.Config{Receivers: receivers("a"), Routes: []api.Route{open()}, Repeat: 60, Beat: 30}
}

// full has four routes that ask for something, with chains of each length.
func full() api.Config {
	return some(
		path(chain(3, 1, 0, 2), asks(is, "a", "x"), asks(not, "b", "y")),
		path(chain(2), asks(begins, "zone", "eu")),
		path(chain(0, 3), asks(is, "a", ""), asks(begins, "b", ""), asks(has, "c", "")),
		path(chain(1, 2, 3), asks(has, "a", ""), asks(has, "b", ""), asks(not, "b", ""), asks(begins, "b", "z")),
	)
}

// openFirst takes all by its first route: what stands behind it is not needed to choose.
func openFirst() api.Config {
	c := full()
	c.Routes[0].Asked = nil
	return c
}

// openLast takes all by its last route.
func openLast() api.Config {
	return some(path(chain(0, 1), asks(is, "a", "x")), path(chain(1, 0)))
}

// bases may be.
func bases() []api.Config {
	return []api.Config{small(), full(), openFirst(), openLast()}
}

// copyOf shares nothing with the config.
func copyOf(c api.Config) api.Config {
	c.Receivers = slices.Clone(c.Receivers)
	c.Routes = slices.Clone(c.Routes)
	for i := range c.Routes {
		c.Routes[i].Chain = slices.Clone(c.Routes[i].Chain)
		c.Routes[i].Asked = slices.Clone(c.Routes[i].Asked)
	}
	return c
}

// with is the config with one change.
func with(c api.Config, change func(c *api.Config)) api.Config {
	c = copyOf(c)
	change(&c)
	return c
}

// isSame holds a nil list for an empty one.
func isSame(a, b api.Config) bool {
	return a.Repeat == b.Repeat && a.Beat == b.Beat && slices.Equal(a.Receivers, b.Receivers) && slices.EqualFunc(a.Routes, b.Routes, func(a, b api.Route) bool {
		return slices.Equal(a.Chain, b.Chain) && slices.Equal(a.Asked, b.Asked)
	})
}

// areLabels is what chapter 10 says of labels.
func areLabels(l []api.Label) bool {
	may := 1 <= len(l) && len(l) <= 3
	for i, one := range l {
		may = may && one.Name != "" && onlyOf(one.Name, "abcdefghijklmnopqrstuvwxyz") && onlyOf(one.Value, "abcdefghijklmnopqrstuvwxyz0123456789-") && (i == 0 || l[i-1].Name < one.Name)
	}
	return may
}

// onlyOf asks byte by byte whether a text is up to 8 of those that may stand in it.
func onlyOf(text, these string) bool {
	for i := range len(text) {
		if strings.IndexByte(these, text[i]) < 0 {
			return false
		}
	}
	return len(text) <= 8
}

// matches is what chapter 10 says of one matcher.
func matches(m api.Matcher, l []api.Label) bool {
	for _, one := range l {
		if one.Name != m.Name {
			continue
		}
		switch m.Kind {
		case is:
			return one.Value == m.Value
		case not:
			return one.Value != m.Value
		case begins:
			return len(one.Value) >= len(m.Value) && one.Value[:len(m.Value)] == m.Value
		}
		return true
	}
	return m.Kind == not
}

// chosen is what the chapter asks of Choose with a config and labels that may be. It goes through the routes from the last one on: the first that takes the labels is looked at last.
func chosen(c api.Config, l []api.Label) (int, api.Errno) {
	number, why := 0, api.ErrNone
	for i := len(c.Routes) - 1; i >= 0; i-- {
		takes := true
		for _, m := range c.Routes[i].Asked {
			takes = takes && matches(m, l)
		}
		if takes {
			number, why = i, api.OK
		}
	}
	return number, why
}

// wantChoose holds Choose against what is expected, and that against what the chapter says.
func wantChoose(t *testing.T, c api.Config, l []api.Label, want int) {
	t.Helper()
	if number, why := chosen(c, l); number != want || why != api.OK {
		t.Fatalf("the chapter does not say %d of %v, with %+v", want, l, c.Routes)
	}
	if got, why := route.Choose(c, l); got != want || why != api.OK {
		t.Errorf("Choose(%+v, %v) = %d, %d, want %d", c, l, got, why, want)
	}
}

// wantNoChoose is an error, with 0 beside it.
func wantNoChoose(t *testing.T, c api.Config, l []api.Label, want api.Errno) {
	t.Helper()
	if got, why := route.Choose(c, l); got != 0 || why != want {
		t.Errorf("Choose(%+v, %v) = %d, %d, want %d and 0 beside it", c, l, got, why, want)
	}
}

// wantNoneChosen is ErrNone, as the chapter says, too.
func wantNoneChosen(t *testing.T, c api.Config, l []api.Label) {
	t.Helper()
	if _, why := chosen(c, l); why != api.ErrNone {
		t.Fatalf("the chapter does not say that none takes %v, with %+v", l, c.Routes)
	}
	wantNoChoose(t, c, l, api.ErrNone)
}

// wantChosen holds Choose against what the chapter says.
func wantChosen(t *testing.T, c api.Config, l []api.Label) {
	t.Helper()
	number, why := chosen(c, l)
	if why != api.OK {
		wantNoneChosen(t, c, l)
		return
	}
	wantChoose(t, c, l, number)
}

func wantReceiver(t *testing.T, c api.Config, number, place, want int) {
	t.Helper()
	if got, why := route.Receiver(c, number, place); got != want || why != api.OK {
		t.Errorf("Receiver(%+v, %d, %d) = %d, %d, want %d", c, number, place, got, why, want)
	}
}

func wantAfter(t *testing.T, c api.Config, number, place, want int) {
	t.Helper()
	if got, why := route.After(c, number, place); got != want || why != api.OK {
		t.Errorf("After(%+v, %d, %d) = %d, %d, want %d", c, number, place, got, why, want)
	}
}

// wantNoPlace is an error of Receiver and After, with 0 beside it.
func wantNoPlace(t *testing.T, c api.Config, number, place int, want api.Errno) {
	t.Helper()
	if got, why := route.Receiver(c, number, place); got != 0 || why != want {
		t.Errorf("Receiver(%+v, %d, %d) = %d, %d, want %d and 0 beside it", c, number, place, got, why, want)
	}
	if got, why := route.After(c, number, place); got != 0 || why != want {
		t.Errorf("After(%+v, %d, %d) = %d, %d, want %d and 0 beside it", c, number, place, got, why, want)
	}
}

// wantPlace holds Receiver and After against what the chapter says, whatever numbers they are handed.
func wantPlace(t *testing.T, c api.Config, number, place int) {
	t.Helper()
	for i, one := range c.Routes {
		for k, told := range one.Chain {
			if i != number || k != place {
				continue
			}
			wantReceiver(t, c, number, place, told)
			if k == len(one.Chain)-1 {
				wantAfter(t, c, number, place, 0)
			} else {
				wantAfter(t, c, number, place, k+1)
			}
			return
		}
	}
	wantNoPlace(t, c, number, place, api.ErrRange)
}

// fewLabels may be.
func fewLabels() [][]api.Label {
	return [][]api.Label{
		labels("a", "x"), labels("a", ""), labels("b", "y"), labels("zone", "eu-1"), labels("abcdefgh", "0-9-a-z-"), labels("q", ""),
		labels("a", "x", "b", "y"), labels("a", "x", "ab", "x"), labels("a", "", "b", "z", "c", "w"), labels("a", "x", "b", "", "zone", "eu"), labels("b", "zz", "c", "", "zone", "us"),
	}
}

// noLabels may not be: none, four, not rising, two of one Name, no name, no value.
func noLabels() [][]api.Label {
	l := [][]api.Label{
		nil, {}, labels("a", "x")[:0], make([]api.Label, 1), make([]api.Label, 3),
		labels("a", "x", "b", "x", "c", "x", "d", "x"), slices.Repeat(labels("a", "x"), 1000),
		labels("b", "x", "a", "x"), labels("a", "x", "c", "x", "b", "x"), labels("b", "x", "a", "x", "c", "x"), labels("ab", "x", "a", "x"),
		labels("a", "x", "a", "x"), labels("a", "x", "a", "y"), labels("a", "x", "b", "x", "b", "x"), labels("a", "x", "a", "x", "b", "x"),
	}
	for _, name := range []string{"", "A", "a1", "abcdefghi", "ä", "a=", " a", "\xff", "\x00"} {
		l = append(l, labels(name, "x"), labels(name, "x", "zz", "x"), labels("a", "x", name, "x"))
	}
	for _, value := range []string{"X", "abcdefghi", "x_", "x y", " ", "=", "ä", "\xff", "\x00"} {
		l = append(l, labels("a", value), labels("a", value, "b", "x"), labels("a", "x", "b", "x", "c", value))
	}
	return l
}

// noReceivers may not be: by Name, by Back, by Tries, by what is a breaker's and a bucket's.
func noReceivers() []api.Receiver {
	var l []api.Receiver
	for _, name := range []string{"", "if", "A", "abcdefghi", "q1", "q-", "q r", "ä", "\xff"} {
		l = append(l, named(name))
	}
	for at, beyond := range []int{maxBase + 1, maxWait + 1, maxBase + 1, 101, 101, maxBase + 1, 101, maxBase + 1} {
		for _, n := range []int{math.MinInt, -1, 0, beyond, math.MaxInt} {
			numbers := []int{1, maxWait, 0, 3, 5, 10, 2, 4}
			numbers[at] = n
			if at != 2 || n != 0 {
				l = append(l, receiver("q", numbers...))
			}
		}
	}
	return append(l, receiver("q", 9, 8, 0, 3, 5, 10, 2, 4), api.Receiver{}, api.Receiver{Name: "q"})
}

// noMatchers may not be: by Kind, by a Value beside MHas, by Name, by Value.
func noMatchers() []api.Matcher {
	ms := matchers(
		api.Matcher{}, asks(-1, "a", "x"), asks(4, "a", "x"), asks(4, "a", ""), asks(math.MinInt, "a", ""), asks(math.MaxInt, "a", ""), asks(1<<32, "a", "x"),
		asks(has, "a", "x"), asks(has, "b", "-"),
	)
	for kind := range 4 {
		for _, name := range []string{"", "A", "a1", "abcdefghi", "a=", "\xff"} {
			ms = append(ms, asks(kind, name, ""))
		}
		for _, value := range []string{"X", "abcdefghi", "x y", "=", "\xff"} {
			ms = append(ms, asks(kind, "a", value))
		}
	}
	return ms
}

// noWaits are beyond both ends of Repeat and Beat.
func noWaits() []int {
	return []int{math.MinInt, -maxWait, -1, 0, maxWait + 1, 1<<32 + 1, 1 << 40, math.MaxInt}
}

// byReceivers are no configs: no receivers, five, one that may not be at each place, two of one Name at each two places.
func byReceivers(c api.Config) []api.Config {
	set := func(l []api.Receiver) api.Config {
		return with(c, func(c *api.Config) { c.Receivers = l })
	}
	l := []api.Config{
		set(nil), set([]api.Receiver{}), set(c.Receivers[:0:0]),
		set(receivers("a", "b", "c", "d", "e")), set(slices.Repeat(receivers("a", "b", "c", "d"), 100)), set(make([]api.Receiver, 4)),
	}
	for i := range c.Receivers {
		for _, no := range noReceivers() {
			l = append(l, with(c, func(c *api.Config) { c.Receivers[i] = no }))
		}
		for j := range i {
			l = append(l, with(c, func(c *api.Config) { c.Receivers[i].Name = c.Receivers[j].Name }))
		}
	}
	return l
}

// byRoutes are no configs: no routes, five, and, where there is room, one of no Chain more at each place.
func byRoutes(c api.Config) []api.Config {
	set := func(l []api.Route) api.Config {
		return with(c, func(c *api.Config) { c.Routes = l })
	}
	l := []api.Config{set(nil), set([]api.Route{}), set(slices.Repeat([]api.Route{open()}, 5)), set(slices.Repeat([]api.Route{open()}, 1000))}
	for i := range len(c.Routes) + 1 {
		if len(c.Routes) < 4 {
			l = append(l, set(slices.Insert(slices.Clone(c.Routes), i, api.Route{})))
		}
	}
	return l
}

// byChains are no configs: in each route a Chain of none, of five, of a number that is no receiver's, of one twice.
func byChains(c api.Config) []api.Config {
	var l []api.Config
	for i, one := range c.Routes {
		set := func(row ...int) {
			l = append(l, with(c, func(c *api.Config) { c.Routes[i].Chain = row }))
		}
		set()
		set([]int{}...)
		set(0, 1, 2, 3, 0)
		set(0, 1, 2, 3, 4)
		set(make([]int, 1000)...)
		for k := range one.Chain {
			for _, no := range []int{math.MinInt, -1, len(c.Receivers), len(c.Receivers) + 1, 256, 1 << 32, math.MaxInt} {
				row := slices.Clone(one.Chain)
				row[k] = no
				set(row...)
			}
			for j := range k {
				row := slices.Clone(one.Chain)
				row[k] = row[j]
				set(row...)
			}
		}
	}
	return l
}

// byAsked are no configs: in each route five matchers, and one that may not be at each place, and behind the last one.
func byAsked(c api.Config) []api.Config {
	var l []api.Config
	five := matchers(asks(is, "a", "x"), asks(not, "a", "y"), asks(begins, "a", ""), asks(has, "a", ""), asks(not, "b", "x"))
	for i, one := range c.Routes {
		set := func(ms ...api.Matcher) {
			l = append(l, with(c, func(c *api.Config) { c.Routes[i].Asked = ms }))
		}
		set(five...)
		set(slices.Repeat(five[:1], 5)...)
		set(slices.Repeat(five, 1000)...)
		for _, no := range noMatchers() {
			for k := range one.Asked {
				ms := slices.Clone(one.Asked)
				ms[k] = no
				set(ms...)
			}
			if len(one.Asked) < 4 {
				set(append(slices.Clone(one.Asked), no)...)
			}
		}
	}
	return l
}

// byWaits are no configs: Repeat, Beat, and both are out of their bounds.
func byWaits(c api.Config) []api.Config {
	l := []api.Config{{}}
	for _, no := range noWaits() {
		l = append(l,
			with(c, func(c *api.Config) { c.Repeat = no }),
			with(c, func(c *api.Config) { c.Beat = no }),
			with(c, func(c *api.Config) { c.Repeat, c.Beat = no, no }),
		)
	}
	return l
}

// noConfigs may not be, each for one reason, wherever in some that may be the wrong one stands.
func noConfigs() []api.Config {
	var l []api.Config
	for _, c := range bases() {
		l = slices.Concat(l, byReceivers(c), byRoutes(c), byChains(c), byAsked(c), byWaits(c))
	}
	return l
}

// edges are numbers that routes and places may have, and such that none has.
func edges() []int {
	return []int{math.MinInt, math.MinInt + 1, -1 << 32, -4, -1, 0, 1, 2, 3, 4, 5, 256, 1 << 32, 1<<32 + 1, math.MaxInt - 1, math.MaxInt}
}

// The limits are those that api names.
func TestLimits(t *testing.T) {
	if api.MaxReceivers != 4 || api.MaxRoutes != 4 || api.MaxChain != 4 || api.MaxAsked != 4 || api.MaxLabels != 3 || api.MaxWait != maxWait || api.MaxBase != maxBase {
		t.Fatalf("MaxReceivers %d, MaxRoutes %d, MaxChain %d, MaxAsked %d, MaxLabels %d, MaxWait %d, MaxBase %d", api.MaxReceivers, api.MaxRoutes, api.MaxChain, api.MaxAsked, api.MaxLabels, api.MaxWait, api.MaxBase)
	}
}

// P15.1: what the wrong configs are made of may be, so that each is wrong for the one reason it is made for.
func TestBases(t *testing.T) {
	for _, c := range bases() {
		if !config.Right(c) {
			t.Fatalf("%+v may not be", c)
		}
		for _, l := range fewLabels() {
			wantChosen(t, c, l)
		}
		for _, number := range edges() {
			for _, place := range edges() {
				wantPlace(t, c, number, place)
			}
		}
	}
}

// P15.1: Choose: ErrArg of configs that may not be, with labels that a route takes, that none takes, and that may not be.
func TestChooseByNoConfigs(t *testing.T) {
	for _, c := range noConfigs() {
		if config.Right(c) {
			t.Fatalf("%+v may be", c)
		}
		for _, l := range fewLabels() {
			wantNoChoose(t, c, l, api.ErrArg)
		}
		for _, l := range noLabels()[:20] {
			wantNoChoose(t, c, l, api.ErrArg)
		}
	}
}

// P15.1: Receiver and After: ErrArg of configs that may not be, at a place of a route, and ahead of ErrRange, too.
func TestPlacesByNoConfigs(t *testing.T) {
	for _, c := range noConfigs() {
		for _, number := range edges() {
			for _, place := range edges() {
				wantNoPlace(t, c, number, place, api.ErrArg)
			}
		}
	}
}

// P15.1: Repeat and Beat at their ends, and one beyond.
func TestByRepeatAndBeat(t *testing.T) {
	waits := []int{-1, 0, 1, 2, maxWait - 1, maxWait, maxWait + 1}
	for _, base := range bases() {
		for _, repeat := range waits {
			for _, beat := range waits {
				c := with(base, func(c *api.Config) { c.Repeat, c.Beat = repeat, beat })
				if repeat >= 1 && repeat <= maxWait && beat >= 1 && beat <= maxWait {
					wantChosen(t, c, labels("a", "x"))
					wantPlace(t, c, 0, 0)
					wantPlace(t, c, 0, 4)
				} else {
					wantNoChoose(t, c, labels("a", "x"), api.ErrArg)
					wantNoPlace(t, c, 0, 0, api.ErrArg)
					wantNoPlace(t, c, 0, 4, api.ErrArg)
				}
			}
		}
	}
}

// P15.1: receivers at the ends of what may be.
func TestByReceiversAtTheirEnds(t *testing.T) {
	for _, ends := range []api.Receiver{receiver("z", 1, 1, 0, 1, 1, 1, 1, 1), receiver("abcdefgh", maxBase, maxWait, maxBase, 100, 100, maxBase, 100, maxBase), receiver("iff", maxBase, maxBase, 0, 100, 1, maxBase, 1, maxBase)} {
		for _, base := range bases() {
			for i := range base.Receivers {
				c := with(base, func(c *api.Config) { c.Receivers[i] = ends })
				for _, l := range fewLabels() {
					wantChosen(t, c, l)
				}
				wantPlace(t, c, 0, 0)
				wantPlace(t, c, 0, 4)
			}
		}
	}
}

// P15.1: Choose: ErrArg of labels that may not be, also where a route asks nothing.
func TestChooseByNoLabels(t *testing.T) {
	for _, l := range noLabels() {
		if areLabels(l) {
			t.Fatalf("%v may be", l)
		}
		for _, c := range bases() {
			wantNoChoose(t, c, l, api.ErrArg)
		}
	}
}

// P15.1 and R5: Choose, by each of the 256 bytes in a label's Name and in its Value.
func TestChooseByBytes(t *testing.T) {
	for b := range 256 {
		letter := string([]byte{byte(b)})
		for _, text := range []string{letter, "a" + letter, letter + "a", "abcdefg" + letter} {
			for _, l := range [][]api.Label{labels(text, ""), labels("a", text), labels("a", "x", "b", text), labels("a", "x", text, "y")} {
				for _, c := range bases() {
					if areLabels(l) {
						wantChosen(t, c, l)
					} else {
						wantNoChoose(t, c, l, api.ErrArg)
					}
				}
			}
		}
	}
}
