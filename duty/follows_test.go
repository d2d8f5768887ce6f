package duty_test

import (
	"math/rand/v2"
	"slices"
	"testing"

	"foghorn/api"
	"foghorn/backoff"
	"foghorn/duty"
)

// chains are all of one to n places of n receivers, none of them twice, in each order.
func chains(n int) [][]int {
	var l [][]int
	rows := [][]int{{}}
	for range n {
		var longer [][]int
		for _, row := range rows {
			for told := range n {
				if !slices.Contains(row, told) {
					longer = append(longer, append(slices.Clone(row), told))
				}
			}
		}
		l = append(l, longer...)
		rows = longer
	}
	return l
}

// someConfig has up to four receivers of unlike backs and tries, and up to four routes.
func someConfig(r *rand.Rand) api.Config {
	n := 1 + r.IntN(4)
	c := api.Config{Repeat: 1 + r.IntN(1<<r.IntN(31)), Beat: 30}
	for _, name := range []string{"a", "b", "c", "d"}[:n] {
		base := 1 + r.IntN(1<<r.IntN(21))
		top := min(base+r.IntN(1<<r.IntN(31)), maxWait)
		c.Receivers = append(c.Receivers, tried(name, base, top, r.IntN(1<<r.IntN(21)), 1+r.IntN(1<<r.IntN(6))))
	}
	for range 1 + r.IntN(4) {
		c.Routes = append(c.Routes, path(r.Perm(n)[:1+r.IntN(n)]))
	}
	return c
}

// someDuty may be with the config; each second one is at its place's last try.
func someDuty(r *rand.Rand, c api.Config) api.Duty {
	number := r.IntN(len(c.Routes))
	row := c.Routes[number].Chain
	place := r.IntN(len(row))
	tries := c.Receivers[row[place]].Tries - 1
	if r.IntN(2) == 0 {
		tries = r.IntN(tries + 1)
	}
	return owed(fewLabels()[r.IntN(11)], number, place, tries, r.IntN(1<<r.IntN(41)), 1+r.IntN(3))
}

// P16.4: what New, Sent and Done tell without an error, and not gone, may be, and all that comes of it.
func TestWhatIsToldMayBe(t *testing.T) {
	r := source()
	for range 300 {
		c := someConfig(r)
		d, why := duty.New(c, ax(), r.IntN(1<<r.IntN(41)))
		if why != api.OK || !duty.Right(c, d) {
			t.Fatalf("New(%+v) = %+v, %d", c, d, why)
		}
		for range 200 {
			next, isGone := d, false
			if r.IntN(20) == 0 {
				next, isGone, why = duty.Done(c, d, r.IntN(last+1))
			} else {
				next, isGone, why = duty.Sent(c, d, min(d.Due+r.IntN(3), last), r.IntN(5) == 0, int(r.Uint64()))
			}
			if isGone || why != api.OK {
				if !isSame(next, api.Duty{}) {
					t.Fatalf("%+v told beside %v and %d", next, isGone, why)
				}
				continue
			}
			if !duty.Right(c, next) {
				t.Fatalf("%+v became %+v, with %+v", d, next, c)
			}
			d = next
		}
	}
}

// P16.4: one that is never taken is tried at each receiver of its chain as often as that one's Tries, in order, round and round; behind each try it waits at least the step, and at most that and the Jitter.
func TestNeverTaken(t *testing.T) {
	r := source()
	for _, row := range chains(4) {
		for number := range 2 {
			routes := []api.Route{path(chain(1, 0), asks(is, "a", "x")), path(chain(1, 0))}
			routes[number].Chain = row
			l := [][]api.Label{ax(), labels("a", "y")}[number]
			wantRounds(t, r, some(routes...), l)
		}
	}
	for range 200 {
		wantRounds(t, r, someConfig(r), ax())
	}
}

// wantRounds goes three rounds, in each state that is told.
func wantRounds(t *testing.T, r *rand.Rand, c api.Config, l []api.Label) {
	t.Helper()
	for _, state := range []int{sNew, sTold, sDone} {
		d, why := duty.New(c, l, 5)
		if why != api.OK {
			t.Fatalf("New(%+v, %v, 5) is %d", c, l, why)
		}
		d.State = state
		for range 3 {
			for place, who := range c.Routes[d.Route].Chain {
				for tries := range c.Receivers[who].Tries {
					if d.Place != place || d.Tries != tries || d.State != state || !slices.Equal(d.Labels, l) {
						t.Fatalf("%+v, where place %d is tried behind %d tries", d, place, tries)
					}
					d = wantWait(t, r, c, d, c.Receivers[who].Back)
				}
			}
		}
	}
}

// wantWait is the duty behind a try that came to nothing, which is up to some ticks later than it was due.
func wantWait(t *testing.T, r *rand.Rand, c api.Config, d api.Duty, b api.Back) api.Duty {
	t.Helper()
	now := d.Due + r.IntN(3)
	next, isGone, why := duty.Sent(c, d, now, false, int(r.Uint64()))
	if isGone || why != api.OK {
		t.Fatalf("Sent(%+v, %+v, %d, false) is %v, %d", c, d, now, isGone, why)
	}
	step, _ := backoff.Step(b, d.Tries)
	if least, most := min(now+step, last), min(now+step+b.Jitter, last); next.Due < least || next.Due > most {
		t.Fatalf("behind %+v at %d it is due at %d, and not from %d to %d", d, now, next.Due, least, most)
	}
	return next
}

// P16.4: the ways of one alert: it is refused, taken by the next one, told anew, done, refused once more, and taken.
func TestOneAlert(t *testing.T) {
	c := some(path(chain(0, 1), asks(is, "a", "x")))
	wantNew(t, c, ax(), 10, owed(ax(), 0, 0, 0, 10, sNew))
	wantSent(t, c, owed(ax(), 0, 0, 0, 10, sNew), 10, false, 1, owed(ax(), 0, 0, 1, 12, sNew))
	wantSent(t, c, owed(ax(), 0, 0, 1, 12, sNew), 13, false, 1, owed(ax(), 0, 1, 0, 17, sNew))
	wantSent(t, c, owed(ax(), 0, 1, 0, 17, sNew), 17, true, 1, owed(ax(), 0, 0, 0, 77, sTold))
	wantSent(t, c, owed(ax(), 0, 0, 0, 77, sTold), 80, false, 1, owed(ax(), 0, 0, 1, 82, sTold))
	wantDone(t, c, owed(ax(), 0, 0, 1, 82, sTold), 81, owed(ax(), 0, 0, 0, 81, sDone))
	wantSent(t, c, owed(ax(), 0, 0, 0, 81, sDone), 81, false, 1, owed(ax(), 0, 0, 1, 83, sDone))
	wantSent(t, c, owed(ax(), 0, 0, 1, 83, sDone), 83, false, 1, owed(ax(), 0, 1, 0, 87, sDone))
	wantNoDone(t, c, owed(ax(), 0, 1, 0, 87, sDone), 85, api.ErrState)
	wantSentAway(t, c, owed(ax(), 0, 1, 0, 87, sDone), 88, 1)
}

// room is a copy of the config in lists that have room behind their ends, with something in it: if it counted, the config might not be, or be another one.
func room(c api.Config) api.Config {
	c = copyOf(c)
	for i := range c.Routes {
		one := &c.Routes[i]
		one.Chain = append(one.Chain, 0, 7)[:len(one.Chain)]
		one.Asked = append(one.Asked, asks(has, "q", ""), api.Matcher{})[:len(one.Asked)]
	}
	c.Receivers = append(c.Receivers, tried("y", 1, 8, 0, 3), tried("if", 1, 8, 0, 3))[:len(c.Receivers)]
	c.Routes = append(c.Routes, path(chain(0)), api.Route{})[:len(c.Routes)]
	return c
}

// whole is the config with all that its lists have room for.
func whole(c api.Config) api.Config {
	c.Receivers = c.Receivers[:cap(c.Receivers)]
	c.Routes = slices.Clone(c.Routes[:cap(c.Routes)])
	for i := range c.Routes {
		c.Routes[i].Chain = c.Routes[i].Chain[:cap(c.Routes[i].Chain)]
		c.Routes[i].Asked = c.Routes[i].Asked[:cap(c.Routes[i].Asked)]
	}
	return copyOf(c)
}

// roomy is a copy of labels with room behind their end, and something in it.
func roomy(l []api.Label) []api.Label {
	return append(slices.Clone(l), labels("q", "r", "", "")...)[:len(l)]
}

// spoil overwrites the labels of an answer, also by writing behind their end.
func spoil(d api.Duty) {
	for i := range d.Labels {
		d.Labels[i] = api.Label{Name: "spoilt", Value: "spoilt"}
	}
	_ = append(d.Labels, labels("spoilt", "", "spoilt", "", "spoilt", "")...)
}

// R4: no call changes the config, the labels or the duty that it was handed, nor what lies behind their ends, and that counts for nothing; an answer shares no memory with them.
func TestListsStay(t *testing.T) {
	for _, base := range bases() {
		c := room(base)
		was := whole(c)
		for _, plain := range [][]api.Label{ax(), labels("a", "", "b", "z", "c", "w"), labels("q", ""), nil, labels("b", "x", "a", "x")} {
			l := roomy(plain)
			wasLabels := slices.Clone(l[:len(l)+2])
			wantMade(t, c, l, 7)
			d, _ := duty.New(c, l, 7)
			spoil(d)
			for _, d := range duties(base, l, 5) {
				wantRight(t, c, d, mayBe(base, d))
				wantAhead(t, d, d, false)
				for _, now := range []int{4, 5, 9} {
					wantTold(t, c, d, now, true, 3)
					wantTold(t, c, d, now, false, 3)
					wantEnded(t, c, d, now)
					taken, _, _ := duty.Sent(c, d, now, true, 3)
					spoil(taken)
					refused, _, _ := duty.Sent(c, d, now, false, 3)
					spoil(refused)
					ended, _, _ := duty.Done(c, d, now)
					spoil(ended)
				}
			}
			if !slices.Equal(l[:len(l)+2], wasLabels) {
				t.Fatalf("the labels %v became %v", wasLabels, l[:len(l)+2])
			}
		}
		if !isSameConfig(whole(c), was) {
			t.Fatalf("%+v became %+v", was, whole(c))
		}
	}
}

// R3: a nil list counts as an empty one: of labels, receivers, routes, a Chain, and Asked.
func TestNilLists(t *testing.T) {
	for _, base := range bases() {
		for _, nothing := range [][]api.Label{nil, {}} {
			wantNoNew(t, base, nothing, 5, api.ErrArg)
			wantNone(t, base, owed(nothing, 0, 0, 0, 5, sTold))
		}
		for i := range base.Routes {
			for _, no := range []api.Config{
				with(base, func(c *api.Config) { c.Receivers = nil }), with(base, func(c *api.Config) { c.Receivers = []api.Receiver{} }),
				with(base, func(c *api.Config) { c.Routes = nil }), with(base, func(c *api.Config) { c.Routes = []api.Route{} }),
				with(base, func(c *api.Config) { c.Routes[i].Chain = nil }), with(base, func(c *api.Config) { c.Routes[i].Chain = []int{} }),
			} {
				wantNothing(t, no, owed(ax(), 0, 0, 0, 5, sTold))
				wantNoNew(t, no, ax(), 5, api.ErrArg)
			}
			for _, nothing := range [][]api.Matcher{nil, {}} {
				c := with(base, func(c *api.Config) { c.Routes[i].Asked = nothing })
				wantMade(t, c, labels("q", ""), 5)
				wantRight(t, c, owed(labels("q", ""), i, 0, 0, 5, sTold), true)
				wantTold(t, c, owed(labels("q", ""), i, 0, 0, 5, sTold), 5, false, 3)
				wantEnded(t, c, owed(labels("q", ""), i, 0, 0, 5, sTold), 5)
			}
		}
	}
}

// R1: a call answers the same, whatever was called ahead of it.
func TestNothingIsKept(t *testing.T) {
	c, no := full(), some(path(chain(0, 0)))
	d := owed(ax(), 0, 1, 2, 5, sTold)
	for range 3 {
		wantNew(t, c, ax(), 5, owed(ax(), 0, 0, 0, 5, sNew))
		wantNothing(t, no, d)
		wantSent(t, c, d, 6, false, 7, owed(ax(), 0, 2, 0, 11, sTold))
		wantNoSent(t, c, d, 4, true, 7, api.ErrState)
		wantSent(t, c, d, 6, true, 7, owed(ax(), 0, 0, 0, 66, sTold))
		wantDone(t, c, d, 4, owed(ax(), 0, 0, 0, 4, sDone))
		wantSentAway(t, c, owed(ax(), 0, 0, 0, 4, sDone), 4, 7)
		wantDoneAway(t, c, owed(ax(), 0, 0, 0, 4, sNew), 4)
		wantNoNew(t, c, labels("q", "x"), 5, api.ErrNone)
		wantSent(t, small(), owed(ax(), 0, 0, 1, 5, sNew), 6, false, 7, owed(ax(), 0, 0, 0, 10, sNew))
		wantRight(t, c, d, true)
		wantNone(t, small(), d)
		wantAhead(t, d, owed(ax(), 0, 0, 0, 6, sNew), true)
		wantNoDone(t, c, owed(ax(), 0, 0, 0, 4, sDone), 9, api.ErrState)
	}
}
