package duty_test

import (
	"math"
	"math/big"
	"math/rand/v2"
	"slices"
	"strings"
	"testing"

	"foghorn/api"
	"foghorn/config"
	"foghorn/duty"
)

const (
	is, not, begins, has = 0, 1, 2, 3

	sNew, sTold, sDone = 1, 2, 3

	maxBase = 1 << 20
	maxWait = 1 << 30
	last    = 1 << 40
)

// A seed that stays the same: a run that fails fails again.
func source() *rand.Rand {
	return rand.New(rand.NewPCG(32, 33))
}

// receiver has its numbers in this order: Base, Top, Jitter, Tries, Fails, Open, Burst, Every.
func receiver(name string, n ...int) api.Receiver {
	return api.Receiver{Name: name, Back: api.Back{Base: n[0], Top: n[1], Jitter: n[2]}, Tries: n[3], Fails: n[4], Open: n[5], Burst: n[6], Every: n[7]}
}

// tried is a receiver of this back and these tries, that may be if they may.
func tried(name string, base, top, jitter, tries int) api.Receiver {
	return receiver(name, base, top, jitter, tries, 5, 10, 2, 4)
}

// four are receivers of unlike backs and tries: a has 2 tries, b 3, c one, d 5.
func four() []api.Receiver {
	return []api.Receiver{tried("a", 2, 8, 0, 2), tried("b", 1, 1000, 5, 3), tried("c", 3, 3, 1, 1), tried("d", 7, 100, 20, 5)}
}

func chain(places ...int) []int {
	return places
}

func asks(kind int, name, value string) api.Matcher {
	return api.Matcher{Kind: kind, Name: name, Value: value}
}

func matchers(ms ...api.Matcher) []api.Matcher {
	return ms
}

// path is a route.
func path(chain []int, asked ...api.Matcher) api.Route {
	return api.Route{Chain: chain, Asked: asked}
}

// labels are of each two texts: a name, and its value.
func labels(texts ...string) []api.Label {
	var l []api.Label
	for i := 0; i < len(texts); i += 2 {
		l = append(l, api.Label{Name: texts[i], Value: texts[i+1]})
	}
	return l
}

// ax are the labels where it doesn't matter which.
func ax() []api.Label {
	return labels("a", "x")
}

// some has those four receivers, and these routes.
func some(routes ...api.Route) api.Config {
	return api.Config{Receivers: four(), Routes: routes, Repeat: 60, Beat: 30}
}

// small has one receiver and one route, that asks nothing.
func small() api.Config {
	return api.Config{Receivers: four()[:1:1], Routes: []api.Route{path(chain(0))}, Repeat: 1, Beat: 1}
}

// full has four routes that ask for something, with chains of each length.
func full() api.Config {
	return some(
		path(chain(3, 1, 0, 2), asks(is, "a", "x"), asks(not, "b", "y")),
		path(chain(2), asks(begins, "zone", "eu")),
		path(chain(0, 3), asks(is, "a", ""), asks(begins, "b", ""), asks(has, "c", "")),
		path(chain(1, 2, 3), asks(has, "a", ""), asks(has, "b", ""), asks(not, "b", ""), asks(begins, "b", "z")),
	)
}

// openLast takes all by its last route.
func openLast() api.Config {
	c := some(path(chain(0, 1), asks(is, "a", "x")), path(chain(1, 0)))
	c.Repeat, c.Beat = maxWait, maxWait
	return c
}

// bases may be.
func bases() []api.Config {
	return []api.Config{small(), full(), openLast()}
}

// copyOf shares nothing with the config.
func copyOf(c api.Config) api.Config {
	c.Receivers = slices.Clone(c.Receivers)
	c.Routes = slices.Clone(c.Routes)
	for i := range c.Routes {
		c.Routes[i].Chain = slices.Clone(c.Routes[i].Chain)
		c.Routes[i].Asked = slices.Clone(c.Routes[i].Asked)
	}
	return c
}

// with is the config with one change.
func with(c api.Config, change func(c *api.Config)) api.Config {
	c = copyOf(c)
	change(&c)
	return c
}

// isSameConfig holds a nil list for an empty one.
func isSameConfig(a, b api.Config) bool {
	return a.Repeat == b.Repeat && a.Beat == b.Beat && slices.Equal(a.Receivers, b.Receivers) && slices.EqualFunc(a.Routes, b.Routes, func(a, b api.Route) bool {
		return slices.Equal(a.Chain, b.Chain) && slices.Equal(a.Asked, b.Asked)
	})
}

// owed is a duty.
func owed(l []api.Label, route, place, tries, due, state int) api.Duty {
	return api.Duty{Labels: l, Route: route, Place: place, Tries: tries, Due: due, State: state}
}

// isSame holds a nil list for an empty one.
func isSame(a, b api.Duty) bool {
	return slices.Equal(a.Labels, b.Labels) && a.Route == b.Route && a.Place == b.Place && a.Tries == b.Tries && a.Due == b.Due && a.State == b.State
}

// areLabels is what chapter 10 says of labels.
func areLabels(l []api.Label) bool {
	may := 1 <= len(l) && len(l) <= 3
	for i, one := range l {
		may = may && one.Name != "" && onlyOf(one.Name, "abcdefghijklmnopqrstuvwxyz") && onlyOf(one.Value, "abcdefghijklmnopqrstuvwxyz0123456789-") && (i == 0 || l[i-1].Name < one.Name)
	}
	return may
}

// onlyOf asks byte by byte whether a text is up to 8 of those that may stand in it.
func onlyOf(text, these string) bool {
	for i := range len(text) {
		if strings.IndexByte(these, text[i]) < 0 {
			return false
		}
	}
	return len(text) <= 8
}

func isTime(n int) bool {
	return n == last || n > 0 && n < last || n == 0
}

// mayBe is what the chapter says of a duty, with a config that may be.
func mayBe(c api.Config, d api.Duty) bool {
	for number, one := range c.Routes {
		for place, who := range one.Chain {
			if number == d.Route && place == d.Place {
				return d.Tries >= 0 && d.Tries <= c.Receivers[who].Tries-1 && areLabels(d.Labels) && isTime(d.Due) && (d.State == sNew || d.State == sTold || d.State == sDone)
			}
		}
	}
	return false
}

// matches is what chapter 10 says of one matcher.
func matches(m api.Matcher, l []api.Label) bool {
	for _, one := range l {
		if one.Name != m.Name {
			continue
		}
		switch m.Kind {
		case is:
			return one.Value == m.Value
		case not:
			return one.Value != m.Value
		case begins:
			return len(one.Value) >= len(m.Value) && one.Value[:len(m.Value)] == m.Value
		}
		return true
	}
	return m.Kind == not
}

// made is what the chapter asks of New with a config that may be.
func made(c api.Config, l []api.Label, now int) (api.Duty, api.Errno) {
	if !areLabels(l) || !isTime(now) {
		return api.Duty{}, api.ErrArg
	}
	for number, one := range c.Routes {
		takes := 0
		for _, m := range one.Asked {
			if matches(m, l) {
				takes++
			}
		}
		if takes == len(one.Asked) {
			return owed(l, number, 0, 0, now, sNew), api.OK
		}
	}
	return api.Duty{}, api.ErrNone
}

// later is two times together, up to the last one.
func later(now, wait int) int {
	if now > last-wait {
		return last
	}
	return now + wait
}

// stepOf is what chapter 6 says of a back's step n.
func stepOf(b api.Back, n int) int {
	step := b.Base
	for range n {
		step = min(step+step, b.Top)
	}
	return step
}

// partOf is what chapter 6 says of a draw's part: the remainder from 0 on, which is what big numbers have.
func partOf(b api.Back, draw int) int {
	return int(new(big.Int).Mod(big.NewInt(int64(draw)), big.NewInt(int64(b.Jitter)+1)).Int64())
}

// sent is what the chapter asks of Sent with a config that may be.
func sent(c api.Config, d api.Duty, now int, ok bool, draw int) (api.Duty, bool, api.Errno) {
	if !mayBe(c, d) || !isTime(now) {
		return api.Duty{}, false, api.ErrArg
	}
	if now < d.Due {
		return api.Duty{}, false, api.ErrState
	}
	if ok {
		if d.State == sDone {
			return api.Duty{}, true, api.OK
		}
		return owed(d.Labels, d.Route, 0, 0, later(now, c.Repeat), sTold), false, api.OK
	}
	row := c.Routes[d.Route].Chain
	who := c.Receivers[row[d.Place]]
	due := later(now, stepOf(who.Back, d.Tries)+partOf(who.Back, draw))
	switch {
	case d.Tries < who.Tries-1:
		return owed(d.Labels, d.Route, d.Place, d.Tries+1, due, d.State), false, api.OK
	case d.Place < len(row)-1:
		return owed(d.Labels, d.Route, d.Place+1, 0, due, d.State), false, api.OK
	}
	return owed(d.Labels, d.Route, 0, 0, due, d.State), false, api.OK
}

// done is what the chapter asks of Done with a config that may be.
func done(c api.Config, d api.Duty, now int) (api.Duty, bool, api.Errno) {
	switch {
	case !mayBe(c, d) || !isTime(now):
		return api.Duty{}, false, api.ErrArg
	case d.State == sDone:
		return api.Duty{}, false, api.ErrState
	case d.State == sNew:
		return api.Duty{}, true, api.OK
	}
	return owed(d.Labels, d.Route, 0, 0, now, sDone), false, api.OK
}

// isAhead is what the chapter says of two duties, byte by byte.
func isAhead(a, b api.Duty) bool {
	if a.Due != b.Due {
		return a.Due < b.Due
	}
	for i := range min(len(a.Labels), len(b.Labels)) {
		one, other := a.Labels[i], b.Labels[i]
		if one.Name != other.Name {
			return isLess(one.Name, other.Name)
		}
		if one.Value != other.Value {
			return isLess(one.Value, other.Value)
		}
	}
	return len(a.Labels) < len(b.Labels)
}

// isLess is what rule R5 says.
func isLess(a, b string) bool {
	for i := range min(len(a), len(b)) {
		if a[i] != b[i] {
			return a[i] < b[i]
		}
	}
	return len(a) < len(b)
}

// wantRight holds Right against what is expected, and that against what the chapter says, with a config that may be.
func wantRight(t *testing.T, c api.Config, d api.Duty, want bool) {
	t.Helper()
	if mayBe(c, d) != want {
		t.Fatalf("the chapter does not say %v of %+v, with %+v", want, d, c)
	}
	if got := duty.Right(c, d); got != want {
		t.Errorf("Right(%+v, %+v) = %v, want %v", c, d, got, want)
	}
}

// wantNew holds New against what is expected, and that against what the chapter says.
func wantNew(t *testing.T, c api.Config, l []api.Label, now int, want api.Duty) {
	t.Helper()
	if d, why := made(c, l, now); !isSame(d, want) || why != api.OK {
		t.Fatalf("the chapter does not say %+v of %v at %d, with %+v", want, l, now, c)
	}
	if got, why := duty.New(c, l, now); !isSame(got, want) || why != api.OK {
		t.Errorf("New(%+v, %v, %d) = %+v, %d, want %+v", c, l, now, got, why, want)
	}
}

// wantNoNew is an error, with a duty that is zero beside it.
func wantNoNew(t *testing.T, c api.Config, l []api.Label, now int, want api.Errno) {
	t.Helper()
	if got, why := duty.New(c, l, now); !isSame(got, api.Duty{}) || why != want {
		t.Errorf("New(%+v, %v, %d) = %+v, %d, want %d and a zero duty beside it", c, l, now, got, why, want)
	}
}

// wantMade holds New against what the chapter says.
func wantMade(t *testing.T, c api.Config, l []api.Label, now int) {
	t.Helper()
	if want, why := made(c, l, now); why == api.OK {
		wantNew(t, c, l, now, want)
	} else {
		wantNoNew(t, c, l, now, why)
	}
}

// wantSent holds Sent against what is expected, and that against what the chapter says.
func wantSent(t *testing.T, c api.Config, d api.Duty, now int, ok bool, draw int, want api.Duty) {
	t.Helper()
	if next, isGone, why := sent(c, d, now, ok, draw); !isSame(next, want) || isGone || why != api.OK {
		t.Fatalf("the chapter does not say %+v of %+v at %d, %v, %d, with %+v", want, d, now, ok, draw, c)
	}
	if got, isGone, why := duty.Sent(c, d, now, ok, draw); !isSame(got, want) || isGone || why != api.OK {
		t.Errorf("Sent(%+v, %+v, %d, %v, %d) = %+v, %v, %d, want %+v", c, d, now, ok, draw, got, isGone, why, want)
	}
}

// wantSentAway is a duty that is gone behind Sent.
func wantSentAway(t *testing.T, c api.Config, d api.Duty, now, draw int) {
	t.Helper()
	if _, isGone, why := sent(c, d, now, true, draw); !isGone || why != api.OK {
		t.Fatalf("the chapter does not say that %+v is gone at %d, with %+v", d, now, c)
	}
	if got, isGone, why := duty.Sent(c, d, now, true, draw); !isSame(got, api.Duty{}) || !isGone || why != api.OK {
		t.Errorf("Sent(%+v, %+v, %d, true, %d) = %+v, %v, %d, want that it is gone", c, d, now, draw, got, isGone, why)
	}
}

// wantNoSent is an error, with a duty that is zero and false beside it.
func wantNoSent(t *testing.T, c api.Config, d api.Duty, now int, ok bool, draw int, want api.Errno) {
	t.Helper()
	if got, isGone, why := duty.Sent(c, d, now, ok, draw); !isSame(got, api.Duty{}) || isGone || why != want {
		t.Errorf("Sent(%+v, %+v, %d, %v, %d) = %+v, %v, %d, want %d and zeros beside it", c, d, now, ok, draw, got, isGone, why, want)
	}
}

// wantTold holds Sent against what the chapter says.
func wantTold(t *testing.T, c api.Config, d api.Duty, now int, ok bool, draw int) {
	t.Helper()
	switch want, isGone, why := sent(c, d, now, ok, draw); {
	case why != api.OK:
		wantNoSent(t, c, d, now, ok, draw, why)
	case isGone:
		wantSentAway(t, c, d, now, draw)
	default:
		wantSent(t, c, d, now, ok, draw, want)
	}
}

// wantDone holds Done against what is expected, and that against what the chapter says.
func wantDone(t *testing.T, c api.Config, d api.Duty, now int, want api.Duty) {
	t.Helper()
	if next, isGone, why := done(c, d, now); !isSame(next, want) || isGone || why != api.OK {
		t.Fatalf("the chapter does not say %+v of %+v, done at %d, with %+v", want, d, now, c)
	}
	if got, isGone, why := duty.Done(c, d, now); !isSame(got, want) || isGone || why != api.OK {
		t.Errorf("Done(%+v, %+v, %d) = %+v, %v, %d, want %+v", c, d, now, got, isGone, why, want)
	}
}

// wantDoneAway is a duty that is gone behind Done.
func wantDoneAway(t *testing.T, c api.Config, d api.Duty, now int) {
	t.Helper()
	if _, isGone, why := done(c, d, now); !isGone || why != api.OK {
		t.Fatalf("the chapter does not say that %+v is gone, done at %d, with %+v", d, now, c)
	}
	if got, isGone, why := duty.Done(c, d, now); !isSame(got, api.Duty{}) || !isGone || why != api.OK {
		t.Errorf("Done(%+v, %+v, %d) = %+v, %v, %d, want that it is gone", c, d, now, got, isGone, why)
	}
}

// wantNoDone is an error, with a duty that is zero and false beside it.
func wantNoDone(t *testing.T, c api.Config, d api.Duty, now int, want api.Errno) {
	t.Helper()
	if got, isGone, why := duty.Done(c, d, now); !isSame(got, api.Duty{}) || isGone || why != want {
		t.Errorf("Done(%+v, %+v, %d) = %+v, %v, %d, want %d and zeros beside it", c, d, now, got, isGone, why, want)
	}
}

// wantEnded holds Done against what the chapter says.
func wantEnded(t *testing.T, c api.Config, d api.Duty, now int) {
	t.Helper()
	switch want, isGone, why := done(c, d, now); {
	case why != api.OK:
		wantNoDone(t, c, d, now, why)
	case isGone:
		wantDoneAway(t, c, d, now)
	default:
		wantDone(t, c, d, now, want)
	}
}

// wantAhead holds Ahead against what is expected, and that against what the chapter says.
func wantAhead(t *testing.T, a, b api.Duty, want bool) {
	t.Helper()
	if isAhead(a, b) != want {
		t.Fatalf("the chapter does not say %v of %+v and %+v", want, a, b)
	}
	if got := duty.Ahead(a, b); got != want {
		t.Errorf("Ahead(%+v, %+v) = %v, want %v", a, b, got, want)
	}
}

// fewLabels may be.
func fewLabels() [][]api.Label {
	return [][]api.Label{
		labels("a", "x"), labels("a", ""), labels("b", "y"), labels("zone", "eu-1"), labels("abcdefgh", "0-9-a-z-"), labels("q", ""),
		labels("a", "x", "b", "y"), labels("a", "x", "ab", "x"), labels("a", "", "b", "z", "c", "w"), labels("a", "x", "b", "", "zone", "eu"), labels("b", "zz", "c", "", "zone", "us"),
	}
}

// noLabels may not be: none, four, not rising, two of one Name, no name, no value.
func noLabels() [][]api.Label {
	l := [][]api.Label{
		nil, {}, ax()[:0], make([]api.Label, 1), make([]api.Label, 3),
		labels("a", "x", "b", "x", "c", "x", "d", "x"), slices.Repeat(ax(), 1000),
		labels("b", "x", "a", "x"), labels("a", "x", "c", "x", "b", "x"), labels("b", "x", "a", "x", "c", "x"), labels("ab", "x", "a", "x"),
		labels("a", "x", "a", "x"), labels("a", "x", "a", "y"), labels("a", "x", "b", "x", "b", "x"), labels("a", "x", "a", "x", "b", "x"),
	}
	for _, name := range []string{"", "A", "a1", "abcdefghi", "ä", "a=", " a", "\xff", "\x00"} {
		l = append(l, labels(name, "x"), labels(name, "x", "zz", "x"), labels("a", "x", name, "x"))
	}
	for _, value := range []string{"X", "abcdefghi", "x_", "x y", " ", "=", "ä", "\xff", "\x00"} {
		l = append(l, labels("a", value), labels("a", value, "b", "x"), labels("a", "x", "b", "x", "c", value))
	}
	return l
}

// noTimes are beyond both ends.
func noTimes() []int {
	return []int{math.MinInt, -last, -1, last + 1, 1<<62 + 5, math.MaxInt}
}

// fewTimes are times, both ends among them.
func fewTimes() []int {
	return []int{0, 1, 5, 1000, maxWait, last - 1, last}
}

// fewDraws are of both signs, and of many sizes.
func fewDraws() []int {
	return []int{0, 1, -1, 2, -2, 5, 6, 7, -7, 20, 21, -21, 22, 1000003, -1000003, maxBase, maxBase + 1, last, -last, math.MaxInt, math.MaxInt - 1, math.MinInt, math.MinInt + 1}
}

// edges are numbers that routes, places, tries and states may have, and such that none has.
func edges() []int {
	return []int{math.MinInt, math.MinInt + 1, -1 << 32, -4, -1, 0, 1, 2, 3, 4, 5, 256, 1 << 32, 1<<32 + 1, math.MaxInt - 1, math.MaxInt}
}

// duties are all that may be with the config, of these labels and this Due: at each place of each route, of each number of tries, and of each state.
func duties(c api.Config, l []api.Label, due int) []api.Duty {
	var all []api.Duty
	for number, one := range c.Routes {
		for place, who := range one.Chain {
			for tries := range c.Receivers[who].Tries {
				all = append(all, owed(l, number, place, tries, due, sNew), owed(l, number, place, tries, due, sTold), owed(l, number, place, tries, due, sDone))
			}
		}
	}
	return all
}

// The limits are those that api names.
func TestLimits(t *testing.T) {
	if api.SNew != sNew || api.STold != sTold || api.SDone != sDone || api.MaxTick != last || api.MaxTries != 100 || api.MaxWait != maxWait || api.MaxBase != maxBase {
		t.Fatalf("SNew %d, STold %d, SDone %d, MaxTick %d, MaxTries %d, MaxWait %d, MaxBase %d", api.SNew, api.STold, api.SDone, api.MaxTick, api.MaxTries, api.MaxWait, api.MaxBase)
	}
}

// P16.1: what the wrong configs are made of may be, so that each is wrong for the one reason it is made for.
func TestBases(t *testing.T) {
	for _, c := range bases() {
		if !config.Right(c) {
			t.Fatalf("%+v may not be", c)
		}
		for _, l := range fewLabels() {
			wantMade(t, c, l, 5)
			for _, d := range duties(c, l, 5) {
				wantRight(t, c, d, true)
				wantTold(t, c, d, 5, true, 0)
				wantTold(t, c, d, 6, false, 1)
				wantEnded(t, c, d, 5)
			}
		}
	}
}

// The chapter's examples, of a receiver of base 2, top 8, tries 2: at place 0 of two.
func TestExamples(t *testing.T) {
	c := some(path(chain(0, 3)))
	d := owed(ax(), 0, 0, 0, 5, sNew)
	wantSent(t, c, d, 5, false, 9, owed(ax(), 0, 0, 1, 7, sNew))
	wantSent(t, c, owed(ax(), 0, 0, 1, 7, sNew), 7, false, -9, owed(ax(), 0, 1, 0, 11, sNew))
}
