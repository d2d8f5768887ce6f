package duty_test

import (
	"math"
	"slices"
	"testing"

	"foghorn/api"
	"foghorn/config"
	"foghorn/duty"
)

// noReceivers may not be: by Name, by Back, by Tries, by what is a breaker's and a bucket's.
func noReceivers() []api.Receiver {
	var l []api.Receiver
	for _, name := range []string{"", "if", "A", "abcdefghi", "q1", "q-", "q r", "ä", "\xff"} {
		l = append(l, tried(name, 1, 8, 0, 3))
	}
	for at, beyond := range []int{maxBase + 1, maxWait + 1, maxBase + 1, 101, 101, maxBase + 1, 101, maxBase + 1} {
		for _, n := range []int{math.MinInt, -1, 0, beyond, math.MaxInt} {
			numbers := []int{1, maxWait, 0, 3, 5, 10, 2, 4}
			numbers[at] = n
			if at != 2 || n != 0 {
				l = append(l, receiver("q", numbers...))
			}
		}
	}
	return append(l, tried("q", 9, 8, 0, 3), api.Receiver{}, api.Receiver{Name: "q"})
}

// noMatchers may not be: by Kind, by a Value beside MHas, by Name, by Value.
func noMatchers() []api.Matcher {
	ms := matchers(
		api.Matcher{}, asks(-1, "a", "x"), asks(4, "a", "x"), asks(4, "a", ""), asks(math.MinInt, "a", ""), asks(math.MaxInt, "a", ""), asks(1<<32, "a", "x"),
		asks(has, "a", "x"), asks(has, "b", "-"),
	)
	for kind := range 4 {
		for _, name := range []string{"", "A", "a1", "abcdefghi", "a=", "\xff"} {
			ms = append(ms, asks(kind, name, ""))
		}
		for _, value := range []string{"X", "abcdefghi", "x y", "=", "\xff"} {
			ms = append(ms, asks(kind, "a", value))
		}
	}
	return ms
}

// byReceivers are no configs: no receivers, five, one that may not be at each place, two of one Name at each two places.
func byReceivers(c api.Config) []api.Config {
	set := func(l []api.Receiver) api.Config {
		return with(c, func(c *api.Config) { c.Receivers = l })
	}
	five := append(four(), tried("e", 1, 8, 0, 3))
	l := []api.Config{set(nil), set([]api.Receiver{}), set(c.Receivers[:0:0]), set(five), set(slices.Repeat(five, 100)), set(make([]api.Receiver, 4))}
	for i := range c.Receivers {
		for _, no := range noReceivers() {
			l = append(l, with(c, func(c *api.Config) { c.Receivers[i] = no }))
		}
		for j := range i {
			l = append(l, with(c, func(c *api.Config) { c.Receivers[i].Name = c.Receivers[j].Name }))
		}
	}
	return l
}

// byRoutes are no configs: no routes, five, and, where there is room, one of no Chain more at each place.
func byRoutes(c api.Config) []api.Config {
	set := func(l []api.Route) api.Config {
		return with(c, func(c *api.Config) { c.Routes = l })
	}
	open := []api.Route{path(chain(0))}
	l := []api.Config{set(nil), set([]api.Route{}), set(slices.Repeat(open, 5)), set(slices.Repeat(open, 1000))}
	for i := range len(c.Routes) + 1 {
		if len(c.Routes) < 4 {
			l = append(l, set(slices.Insert(slices.Clone(c.Routes), i, api.Route{})))
		}
	}
	return l
}

// byChains are no configs: in each route a Chain of none, of five, of a number that is no receiver's, of one twice.
func byChains(c api.Config) []api.Config {
	var l []api.Config
	for i, one := range c.Routes {
		set := func(row ...int) {
			l = append(l, with(c, func(c *api.Config) { c.Routes[i].Chain = row }))
		}
		set()
		set([]int{}...)
		set(0, 1, 2, 3, 0)
		set(0, 1, 2, 3, 4)
		set(make([]int, 1000)...)
		for k := range one.Chain {
			for _, no := range []int{math.MinInt, -1, len(c.Receivers), len(c.Receivers) + 1, 256, 1 << 32, math.MaxInt} {
				row := slices.Clone(one.Chain)
				row[k] = no
				set(row...)
			}
			for j := range k {
				row := slices.Clone(one.Chain)
				row[k] = row[j]
				set(row...)
			}
		}
	}
	return l
}

// byAsked are no configs: in each route five matchers, and one that may not be at each place, and behind the last one.
func byAsked(c api.Config) []api.Config {
	var l []api.Config
	five := matchers(asks(is, "a", "x"), asks(not, "a", "y"), asks(begins, "a", ""), asks(has, "a", ""), asks(not, "b", "x"))
	for i, one := range c.Routes {
		set := func(ms ...api.Matcher) {
			l = append(l, with(c, func(c *api.Config) { c.Routes[i].Asked = ms }))
		}
		set(five...)
		set(slices.Repeat(five[:1], 5)...)
		set(slices.Repeat(five, 1000)...)
		for _, no := range noMatchers() {
			for k := range one.Asked {
				ms := slices.Clone(one.Asked)
				ms[k] = no
				set(ms...)
			}
			if len(one.Asked) < 4 {
				set(append(slices.Clone(one.Asked), no)...)
			}
		}
	}
	return l
}

// byWaits are no configs: Repeat, Beat, and both are out of their bounds.
func byWaits(c api.Config) []api.Config {
	l := []api.Config{{}}
	for _, no := range []int{math.MinInt, -maxWait, -1, 0, maxWait + 1, 1<<32 + 1, last, math.MaxInt} {
		l = append(l,
			with(c, func(c *api.Config) { c.Repeat = no }),
			with(c, func(c *api.Config) { c.Beat = no }),
			with(c, func(c *api.Config) { c.Repeat, c.Beat = no, no }),
		)
	}
	return l
}

// noConfigs may not be, each for one reason, wherever in some that may be the wrong one stands.
func noConfigs() []api.Config {
	var l []api.Config
	for _, c := range bases() {
		l = slices.Concat(l, byReceivers(c), byRoutes(c), byChains(c), byAsked(c), byWaits(c))
	}
	return l
}

// P16.1: no duty may be with a config that may not, and all calls of it are ErrArg; also where they would be ErrNone or ErrState.
func TestNoConfigs(t *testing.T) {
	for _, c := range noConfigs() {
		if config.Right(c) {
			t.Fatalf("%+v may be", c)
		}
		for _, d := range []api.Duty{owed(ax(), 0, 0, 0, 5, sNew), owed(ax(), 0, 0, 0, 0, sTold), owed(ax(), 0, 0, 0, last, sDone), owed(ax(), 1, 1, 0, 5, sTold), owed(nil, -1, 9, 100, -1, 4), {}} {
			wantNothing(t, c, d)
		}
		for _, l := range [][]api.Label{ax(), labels("q", ""), labels("zone", "eu"), nil, labels("A", "x")} {
			wantNoNew(t, c, l, 5, api.ErrArg)
			wantNoNew(t, c, l, -1, api.ErrArg)
		}
	}
}

// wantNothing is what all calls answer of a config and a duty one of which may not be.
func wantNothing(t *testing.T, c api.Config, d api.Duty) {
	t.Helper()
	if duty.Right(c, d) {
		t.Errorf("Right(%+v, %+v) is true", c, d)
	}
	for _, now := range []int{0, 5, last, -1, last + 1} {
		wantNoSent(t, c, d, now, true, 3, api.ErrArg)
		wantNoSent(t, c, d, now, false, 3, api.ErrArg)
		wantNoDone(t, c, d, now, api.ErrArg)
	}
}

// P16.1: Repeat and Beat at their ends, and one beyond.
func TestRepeatAndBeatAtTheirEnds(t *testing.T) {
	waits := []int{-1, 0, 1, 2, maxWait - 1, maxWait, maxWait + 1}
	for _, base := range bases() {
		for _, repeat := range waits {
			for _, beat := range waits {
				c := with(base, func(c *api.Config) { c.Repeat, c.Beat = repeat, beat })
				d := owed(ax(), 0, 0, 0, 5, sTold)
				if repeat < 1 || repeat > maxWait || beat < 1 || beat > maxWait {
					wantNothing(t, c, d)
					wantNoNew(t, c, ax(), 5, api.ErrArg)
					continue
				}
				wantRight(t, c, d, true)
				wantNew(t, c, ax(), 5, owed(ax(), 0, 0, 0, 5, sNew))
				wantSent(t, c, d, 6, true, 3, owed(ax(), 0, 0, 0, 6+repeat, sTold))
				wantDone(t, c, d, 6, owed(ax(), 0, 0, 0, 6, sDone))
			}
		}
	}
}

// P16.1: receivers at the ends of what may be: the Tries that a duty may have are those of the receiver whose turn it is.
func TestReceiversAtTheirEnds(t *testing.T) {
	for _, ends := range []api.Receiver{receiver("z", 1, 1, 0, 1, 1, 1, 1, 1), receiver("abcdefgh", maxBase, maxWait, maxBase, 100, 100, maxBase, 100, maxBase), receiver("iff", maxBase, maxBase, 0, 100, 1, maxBase, 1, maxBase)} {
		for _, base := range bases() {
			for i := range base.Receivers {
				c := with(base, func(c *api.Config) { c.Receivers[i] = ends })
				for number, one := range c.Routes {
					for place := range one.Chain {
						for _, tries := range []int{-1, 0, 1, 2, 4, 5, 98, 99, 100, 101} {
							d := owed(ax(), number, place, tries, 5, sTold)
							wantRight(t, c, d, mayBe(c, d))
							for _, draw := range fewDraws() {
								wantTold(t, c, d, 5, false, draw)
							}
							wantTold(t, c, d, 5, true, 0)
							wantEnded(t, c, d, 5)
						}
					}
				}
			}
		}
	}
}
