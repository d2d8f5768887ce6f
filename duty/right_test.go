package duty_test

import (
	"math"
	"slices"
	"testing"

	"foghorn/api"
	"foghorn/duty"
)

// wantNone is a duty that may not be, with a config that may: Right is false, Sent and Done are ErrArg at any time, also ahead of its Due, and where it is done already.
func wantNone(t *testing.T, c api.Config, d api.Duty) {
	t.Helper()
	wantRight(t, c, d, false)
	wantNothing(t, c, d)
}

// P16.1: Right is true of all that may be: each place of each route, each number of Tries below that receiver's, each State, Dues at both ends, all labels.
func TestRight(t *testing.T) {
	for _, c := range bases() {
		for _, due := range fewTimes() {
			for _, d := range duties(c, ax(), due) {
				wantRight(t, c, d, true)
			}
		}
		for _, l := range fewLabels() {
			for _, d := range duties(c, l, 5) {
				wantRight(t, c, d, true)
			}
		}
	}
	wantRight(t, full(), owed(labels("q", ""), 0, 0, 0, 0, sNew), true)
	wantRight(t, full(), owed(labels("q", ""), 3, 2, 4, last, sDone), true)
}

// P16.1: Right does not ask whether the route takes the labels.
func TestRightByAnyRoute(t *testing.T) {
	c := full()
	for number := range c.Routes {
		for _, l := range fewLabels() {
			wantRight(t, c, owed(l, number, 0, 0, 5, sTold), true)
		}
	}
}

// P16.1: labels that may not be: none, four, not rising, two of one Name, no name, no value.
func TestNoLabels(t *testing.T) {
	for _, l := range noLabels() {
		for _, c := range bases() {
			for _, state := range []int{sNew, sTold, sDone} {
				wantNone(t, c, owed(l, 0, 0, 0, 5, state))
			}
		}
	}
}

// P16.1 and R5: labels by each of the 256 bytes in a Name and in a Value.
func TestLabelsByBytes(t *testing.T) {
	for b := range 256 {
		letter := string([]byte{byte(b)})
		for _, text := range []string{letter, "a" + letter, letter + "a", "abcdefg" + letter} {
			for _, l := range [][]api.Label{labels(text, ""), labels("a", text), labels("a", "x", "b", text), labels("a", "x", text, "y")} {
				for _, c := range bases() {
					wantRight(t, c, owed(l, 0, 0, 0, 5, sTold), areLabels(l))
					wantMade(t, c, l, 5)
					wantTold(t, c, owed(l, 0, 0, 0, 5, sTold), 5, true, 0)
					wantEnded(t, c, owed(l, 0, 0, 0, 5, sTold), 5)
				}
			}
		}
	}
}

// P16.1: a Route that there is not: -1, how many there are, one beyond, the least and the greatest int; of one to four routes.
func TestNoRoute(t *testing.T) {
	for n := 1; n <= 4; n++ {
		c := some(full().Routes[:n]...)
		for _, number := range []int{-1, -2, -n, n, n + 1, 1 << 32, -1 << 32, math.MinInt, math.MinInt + 1, math.MaxInt - 1, math.MaxInt} {
			for _, place := range []int{0, 1, 3, -1, 4, math.MinInt, math.MaxInt} {
				wantNone(t, c, owed(ax(), number, place, 0, 5, sTold))
			}
		}
	}
}

// P16.1: a Place that the route's Chain has not: -1, how many there are, one beyond, the least and the greatest int, and such that another route's Chain has.
func TestNoPlace(t *testing.T) {
	c := full()
	for number, n := range []int{4, 1, 2, 3} {
		for _, place := range []int{-1, -2, -n, n, n + 1, 4, 5, 1 << 32, -1 << 32, math.MinInt, math.MinInt + 1, math.MaxInt - 1, math.MaxInt} {
			wantNone(t, c, owed(ax(), number, place, 0, 5, sTold))
		}
	}
	wantRight(t, c, owed(ax(), 0, 3, 0, 5, sTold), true)
	wantNone(t, c, owed(ax(), 1, 1, 0, 5, sTold))
	wantNone(t, c, owed(ax(), 2, 3, 0, 5, sTold))
	wantNone(t, c, owed(ax(), 3, 3, 0, 5, sTold))
}

// P16.1: a Place is counted in the Chain, and its Tries are those of the receiver that stands there: not of that number's, and not of another one's.
func TestTriesOfTheReceiverThere(t *testing.T) {
	c := full()
	for number, tries := range [][]int{{5, 3, 2, 1}, {1}, {2, 5}, {3, 1, 5}} {
		for place, n := range tries {
			wantRight(t, c, owed(ax(), number, place, n-1, 5, sTold), true)
			for _, no := range []int{-1, -n, n, n + 1, n + 256, 1 << 32, -1 << 32, math.MinInt, math.MinInt + 1, math.MaxInt - 1, math.MaxInt} {
				wantNone(t, c, owed(ax(), number, place, no, 5, sTold))
			}
			for other := range 8 {
				wantRight(t, c, owed(ax(), number, place, other, 5, sTold), other < n)
			}
		}
	}
}

// P16.1: Tries up to the 99 of a receiver of 100.
func TestMostTries(t *testing.T) {
	c := full()
	c.Receivers[3].Tries = 100
	for tries := -2; tries < 210; tries++ {
		wantRight(t, c, owed(ax(), 0, 0, tries, 5, sDone), tries >= 0 && tries < 100)
		wantRight(t, c, owed(ax(), 2, 1, tries, 5, sDone), tries >= 0 && tries < 100)
		wantRight(t, c, owed(ax(), 0, 1, tries, 5, sDone), tries >= 0 && tries < 3)
	}
}

// P16.1: a Due that is no time, and the first and the last one.
func TestDues(t *testing.T) {
	for _, c := range bases() {
		for _, state := range []int{sNew, sTold, sDone} {
			for _, due := range noTimes() {
				wantNone(t, c, owed(ax(), 0, 0, 0, due, state))
			}
			for _, due := range fewTimes() {
				wantRight(t, c, owed(ax(), 0, 0, 0, due, state), true)
			}
		}
	}
}

// P16.1: a State that there is not.
func TestStates(t *testing.T) {
	for _, c := range bases() {
		for _, state := range []int{0, 4, 5, -1, -2, -3, 256, 257, 1<<32 + 1, 1 << 32, math.MinInt, math.MinInt + 1, math.MaxInt - 1, math.MaxInt} {
			wantNone(t, c, owed(ax(), 0, 0, 0, 5, state))
		}
		for state := range 8 {
			wantRight(t, c, owed(ax(), 0, 0, 0, 5, state), state >= 1 && state <= 3)
		}
		wantNone(t, c, api.Duty{})
		wantNone(t, c, api.Duty{Labels: ax()})
	}
}

// P16.1: Right, by all numbers together.
func TestRightByAllNumbers(t *testing.T) {
	c := full()
	for number := -1; number <= 4; number++ {
		for place := -1; place <= 4; place++ {
			for tries := -1; tries <= 6; tries++ {
				for state := -1; state <= 4; state++ {
					for _, due := range []int{-1, 0, last, last + 1} {
						d := owed(ax(), number, place, tries, due, state)
						wantRight(t, c, d, mayBe(c, d))
						if !mayBe(c, d) {
							wantNoSent(t, c, d, 0, true, 0, api.ErrArg)
							wantNoSent(t, c, d, last, false, 0, api.ErrArg)
							wantNoDone(t, c, d, 5, api.ErrArg)
						}
					}
				}
			}
		}
	}
	for _, one := range edges() {
		for _, other := range edges() {
			for _, d := range []api.Duty{owed(ax(), one, other, 0, 5, sNew), owed(ax(), 0, one, other, 5, sNew), owed(ax(), 0, 0, one, other, sNew), owed(ax(), 0, 0, 0, one, other), owed(ax(), one, 0, other, 5, sNew)} {
				wantRight(t, c, d, mayBe(c, d))
				wantTold(t, c, d, 5, true, 0)
				wantTold(t, c, d, 5, false, 0)
				wantEnded(t, c, d, 5)
			}
		}
	}
}

// P16.1: New: the route is the first that takes the labels: the first of all, one in between, the last.
func TestNew(t *testing.T) {
	c := full()
	for number, l := range [][]api.Label{ax(), labels("zone", "eu-1"), labels("a", "", "b", "z", "c", "w"), labels("a", "y", "b", "zz")} {
		for _, now := range fewTimes() {
			wantNew(t, c, l, now, owed(l, number, 0, 0, now, sNew))
		}
	}
	wantNew(t, c, labels("a", "x", "b", "x", "zone", "eu"), 7, owed(labels("a", "x", "b", "x", "zone", "eu"), 0, 0, 0, 7, sNew))
	wantNew(t, openLast(), ax(), 7, owed(ax(), 0, 0, 0, 7, sNew))
	wantNew(t, openLast(), labels("a", "y"), 7, owed(labels("a", "y"), 1, 0, 0, 7, sNew))
	wantNew(t, small(), labels("q", ""), 0, owed(labels("q", ""), 0, 0, 0, 0, sNew))
	wantNew(t, small(), labels("q", ""), last, owed(labels("q", ""), 0, 0, 0, last, sNew))
}

// P16.1: New of many labels and times, with each config.
func TestNewOfMany(t *testing.T) {
	for _, c := range bases() {
		for _, l := range slices.Concat(fewLabels(), noLabels()) {
			for _, now := range slices.Concat(fewTimes(), noTimes()) {
				wantMade(t, c, l, now)
			}
		}
	}
}

// P16.1: New: ErrNone, where no route takes the labels.
func TestNewForNobody(t *testing.T) {
	for _, l := range [][]api.Label{labels("q", "x"), labels("zone", "us"), labels("a", "y"), labels("a", "x", "b", "y"), labels("b", "zz")} {
		for _, now := range fewTimes() {
			wantNoNew(t, full(), l, now, api.ErrNone)
		}
	}
	for n := 1; n <= 4; n++ {
		wantNoNew(t, some(full().Routes[:n]...), labels("q", "x"), 5, api.ErrNone)
	}
}

// P16.1: New: ErrArg of labels and of times, each alone and together, also where no route takes the labels: that comes first. Of configs TestNoConfigs asks.
func TestNewByNoArgument(t *testing.T) {
	for _, c := range bases() {
		for _, l := range noLabels() {
			for _, now := range slices.Concat(fewTimes(), noTimes()) {
				wantNoNew(t, c, l, now, api.ErrArg)
			}
		}
		for _, l := range append(fewLabels(), labels("q", "x"), labels("zone", "us")) {
			for _, now := range noTimes() {
				wantNoNew(t, c, l, now, api.ErrArg)
			}
		}
	}
	wantNoNew(t, full(), labels("q", "x"), -1, api.ErrArg)
	wantNoNew(t, full(), labels("q", "x"), last+1, api.ErrArg)
	wantNoNew(t, full(), labels("q", "x"), last, api.ErrNone)
	wantNoNew(t, api.Config{}, labels("q", "x"), 5, api.ErrArg)
	wantNoNew(t, api.Config{}, nil, -1, api.ErrArg)
}

// P16.1: Sent and Done: ErrArg of a now that is no time, also ahead of the ErrState of what is due later, and of what is done.
func TestNoNow(t *testing.T) {
	for _, c := range bases() {
		for _, due := range []int{0, 5, last} {
			for _, d := range duties(c, ax(), due) {
				for _, now := range noTimes() {
					wantNoSent(t, c, d, now, true, 3, api.ErrArg)
					wantNoSent(t, c, d, now, false, 3, api.ErrArg)
					wantNoDone(t, c, d, now, api.ErrArg)
				}
			}
		}
	}
}

// P1: lists and texts that are long, and numbers at both ends.
func TestLongLists(t *testing.T) {
	d := owed(ax(), 3, 2, 4, 5, sTold)
	for _, c := range []api.Config{
		with(full(), func(c *api.Config) { c.Receivers = slices.Repeat(c.Receivers, 100000) }),
		with(full(), func(c *api.Config) { c.Routes = slices.Repeat(c.Routes, 100000) }),
		with(full(), func(c *api.Config) { c.Routes[3].Chain = make([]int, 1000000) }),
		with(full(), func(c *api.Config) { c.Routes[3].Asked = slices.Repeat(c.Routes[3].Asked, 100000) }),
	} {
		made, why := duty.New(c, ax(), 5)
		next, isGone, second := duty.Sent(c, d, 5, true, 0)
		end, isOver, third := duty.Done(c, d, 5)
		if duty.Right(c, d) || isGone || isOver || why != api.ErrArg || second != api.ErrArg || third != api.ErrArg || !isSame(made, api.Duty{}) || !isSame(next, api.Duty{}) || !isSame(end, api.Duty{}) {
			t.Errorf("%+v, %d; %+v, %v, %d; %+v, %v, %d", made, why, next, isGone, second, end, isOver, third)
		}
	}
	long := slices.Repeat(ax(), 1<<20)
	if duty.Right(full(), owed(long, 0, 0, 0, 5, sTold)) {
		t.Error("so many labels may be")
	}
	if more := append(slices.Clone(long), ax()...); !duty.Ahead(api.Duty{Labels: long}, api.Duty{Labels: more}) || duty.Ahead(api.Duty{Labels: more}, api.Duty{Labels: long}) {
		t.Error("fewer labels of very many do not come ahead")
	}
	for _, n := range []int{math.MinInt, math.MaxInt} {
		c := api.Config{Receivers: []api.Receiver{receiver("a", n, n, n, n, n, n, n, n)}, Routes: []api.Route{path(chain(n), asks(n, "", ""))}, Repeat: n, Beat: n}
		wantNothing(t, c, owed(ax(), n, n, n, n, n))
		wantNothing(t, c, owed(ax(), 0, 0, 0, 5, sNew))
		wantNothing(t, small(), owed(ax(), n, n, n, n, n))
		wantNoNew(t, c, ax(), n, api.ErrArg)
		wantNoNew(t, c, ax(), 5, api.ErrArg)
	}
}
