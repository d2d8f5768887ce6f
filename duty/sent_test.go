package duty_test

import (
	"math"
	"testing"

	"foghorn/api"
	"foghorn/duty"
)

// P16.2: ErrState, where Due is after now, by one and by more, with ok and without, in each state; at Due itself and later not.
func TestSentTooEarly(t *testing.T) {
	for _, c := range bases() {
		for _, due := range []int{1, 5, 1000, last - 1, last} {
			for _, d := range duties(c, ax(), due) {
				for _, now := range []int{0, 1, due - 1, due / 2} {
					if now < due {
						wantNoSent(t, c, d, now, true, 3, api.ErrState)
						wantNoSent(t, c, d, now, false, 3, api.ErrState)
					}
				}
				for _, now := range []int{due, min(due+1, last), last} {
					wantTold(t, c, d, now, true, 3)
					wantTold(t, c, d, now, false, 3)
				}
			}
		}
	}
	d := owed(ax(), 0, 0, 0, 5, sTold)
	wantNoSent(t, full(), d, 4, true, 0, api.ErrState)
	wantNoSent(t, full(), d, 4, false, 0, api.ErrState)
	wantNoSent(t, full(), owed(ax(), 0, 0, 0, 5, sDone), 4, true, 0, api.ErrState)
	wantSent(t, full(), d, 5, true, 0, owed(ax(), 0, 0, 0, 65, sTold))
	wantSent(t, full(), d, 6, true, 0, owed(ax(), 0, 0, 0, 66, sTold))
}

// P16.2: with ok what fires is told: turned to now and Repeat, from each place and each Tries; the draw does not matter.
func TestTaken(t *testing.T) {
	l := labels("a", "", "b", "z", "c", "w")
	c := full()
	for _, d := range duties(c, l, 5) {
		if d.State == sDone {
			continue
		}
		for _, now := range []int{5, 6, 1000, last - 61, last - 60} {
			wantSent(t, c, d, now, true, 3, owed(l, d.Route, 0, 0, now+60, sTold))
		}
	}
	for _, draw := range fewDraws() {
		wantSent(t, c, owed(l, 0, 1, 2, 5, sNew), 7, true, draw, owed(l, 0, 0, 0, 67, sTold))
		wantSent(t, c, owed(l, 3, 2, 4, 5, sTold), 7, true, draw, owed(l, 3, 0, 0, 67, sTold))
	}
}

// P16.2: with ok: now and Repeat together stop at the last time.
func TestTakenAtTheEnd(t *testing.T) {
	for _, repeat := range []int{1, 60, maxWait} {
		c := with(full(), func(c *api.Config) { c.Repeat = repeat })
		for _, state := range []int{sNew, sTold} {
			d := owed(ax(), 0, 1, 1, 5, state)
			wantSent(t, c, d, 5, true, 0, owed(ax(), 0, 0, 0, 5+repeat, sTold))
			wantSent(t, c, d, last-repeat-1, true, 0, owed(ax(), 0, 0, 0, last-1, sTold))
			for _, now := range []int{last - repeat, last - repeat + 1, last - 1, last} {
				wantSent(t, c, d, now, true, 0, owed(ax(), 0, 0, 0, last, sTold))
			}
		}
	}
}

// P16.2: with ok what is done is gone, from each place and each Tries.
func TestTakenToBeDone(t *testing.T) {
	for _, c := range bases() {
		for _, d := range duties(c, labels("zone", "eu"), 5) {
			if d.State != sDone {
				continue
			}
			for _, now := range []int{5, 6, last} {
				for _, draw := range fewDraws() {
					wantSentAway(t, c, d, now, draw)
				}
			}
		}
	}
}

// P16.2: without ok, written out: chain 3, 1, 0, 2: of d 5 tries of base 7 up to 100, of b 3 of base 1, of a 2 of base 2, of c one of 3.
func TestRefused(t *testing.T) {
	c := full()
	for _, state := range []int{sNew, sTold, sDone} {
		for _, one := range []struct{ place, tries, wait, nextPlace, nextTries int }{
			{0, 0, 7, 0, 1}, {0, 1, 14, 0, 2}, {0, 2, 28, 0, 3}, {0, 3, 56, 0, 4}, {0, 4, 100, 1, 0},
			{1, 0, 1, 1, 1}, {1, 1, 2, 1, 2}, {1, 2, 4, 2, 0},
			{2, 0, 2, 2, 1}, {2, 1, 4, 3, 0},
			{3, 0, 3, 0, 0},
		} {
			for _, now := range []int{5, 6, 1000} {
				wantSent(t, c, owed(ax(), 0, one.place, one.tries, 5, state), now, false, 0, owed(ax(), 0, one.nextPlace, one.nextTries, now+one.wait, state))
			}
		}
	}
}

// P16.2: a chain of one place, of one try and of more: the next place is the same one.
func TestRefusedByTheOnlyOne(t *testing.T) {
	l := labels("zone", "eu")
	for _, state := range []int{sNew, sTold, sDone} {
		wantSent(t, full(), owed(l, 1, 0, 0, 5, state), 9, false, 0, owed(l, 1, 0, 0, 12, state))
		wantSent(t, full(), owed(l, 1, 0, 0, 5, state), 9, false, 1, owed(l, 1, 0, 0, 13, state))
		wantSent(t, small(), owed(l, 0, 0, 0, 5, state), 9, false, 0, owed(l, 0, 0, 1, 11, state))
		wantSent(t, small(), owed(l, 0, 0, 1, 5, state), 9, false, 0, owed(l, 0, 0, 0, 13, state))
	}
}

// P16.2: receivers of one try: each try goes on to the next place, and behind the last one to the first.
func TestRefusedAtOnce(t *testing.T) {
	c := some(path(chain(2, 0, 3, 1)))
	for i := range c.Receivers {
		c.Receivers[i].Tries = 1
	}
	for place, wait := range []int{3, 2, 7, 1} {
		wantSent(t, c, owed(ax(), 0, place, 0, 5, sNew), 5, false, 0, owed(ax(), 0, (place+1)%4, 0, 5+wait, sNew))
	}
}

// P16.2: the draw's part of the Jitter: its remainder, from 0 on, by Jitter and 1, together: b's Jitter is 5, d's 20, a's 0, c's 1.
func TestRefusedByDraws(t *testing.T) {
	c := full()
	for _, one := range []struct{ draw, b, d, a, c int }{
		{0, 0, 0, 0, 0}, {1, 1, 1, 0, 1}, {5, 5, 5, 0, 1}, {6, 0, 6, 0, 0}, {7, 1, 7, 0, 1}, {20, 2, 20, 0, 0}, {21, 3, 0, 0, 1},
		{-1, 5, 20, 0, 1}, {-5, 1, 16, 0, 1}, {-6, 0, 15, 0, 0}, {-7, 5, 14, 0, 1}, {-20, 4, 1, 0, 0}, {-21, 3, 0, 0, 1}, {-22, 2, 20, 0, 0},
		{math.MaxInt, 1, 7, 0, 1}, {math.MinInt, 4, 13, 0, 0},
	} {
		wantSent(t, c, owed(ax(), 0, 0, 0, 5, sNew), 5, false, one.draw, owed(ax(), 0, 0, 1, 12+one.d, sNew))
		wantSent(t, c, owed(ax(), 0, 0, 4, 5, sNew), 5, false, one.draw, owed(ax(), 0, 1, 0, 105+one.d, sNew))
		wantSent(t, c, owed(ax(), 0, 1, 0, 5, sNew), 5, false, one.draw, owed(ax(), 0, 1, 1, 6+one.b, sNew))
		wantSent(t, c, owed(ax(), 0, 1, 2, 5, sNew), 5, false, one.draw, owed(ax(), 0, 2, 0, 9+one.b, sNew))
		wantSent(t, c, owed(ax(), 0, 2, 1, 5, sNew), 5, false, one.draw, owed(ax(), 0, 3, 0, 9+one.a, sNew))
		wantSent(t, c, owed(ax(), 0, 3, 0, 5, sNew), 5, false, one.draw, owed(ax(), 0, 0, 0, 8+one.c, sNew))
	}
}

// P16.2: without ok: now and the wait together stop at the last time.
func TestRefusedAtTheEnd(t *testing.T) {
	for _, state := range []int{sNew, sTold, sDone} {
		for _, now := range []int{last - 100, last - 7, last - 6, last - 1, last} {
			wantSent(t, full(), owed(ax(), 0, 0, 0, 5, state), now, false, 0, owed(ax(), 0, 0, 1, min(now+7, last), state))
			wantSent(t, full(), owed(ax(), 0, 0, 4, last-100, state), now, false, 0, owed(ax(), 0, 1, 0, last, state))
		}
		wantSent(t, full(), owed(ax(), 0, 0, 0, 5, state), last-8, false, 0, owed(ax(), 0, 0, 1, last-1, state))
		wantSent(t, full(), owed(ax(), 0, 0, 0, 5, state), last-8, false, 1, owed(ax(), 0, 0, 1, last, state))
		wantSent(t, full(), owed(ax(), 0, 0, 0, 5, state), last-8, false, 20, owed(ax(), 0, 0, 1, last, state))
	}
}

// P16.2: the longest waits: Top and Jitter at their most, at the last of 100 tries.
func TestRefusedByTheSlowest(t *testing.T) {
	c := small()
	c.Receivers[0] = tried("a", maxBase, maxWait, maxBase, 100)
	wantSent(t, c, owed(ax(), 0, 0, 0, 5, sNew), 5, false, maxBase, owed(ax(), 0, 0, 1, 5+2*maxBase, sNew))
	wantSent(t, c, owed(ax(), 0, 0, 9, 5, sNew), 5, false, 0, owed(ax(), 0, 0, 10, 5+maxWait/2, sNew))
	wantSent(t, c, owed(ax(), 0, 0, 10, 5, sNew), 5, false, 0, owed(ax(), 0, 0, 11, 5+maxWait, sNew))
	wantSent(t, c, owed(ax(), 0, 0, 98, 5, sNew), 5, false, maxBase+1, owed(ax(), 0, 0, 99, 5+maxWait, sNew))
	wantSent(t, c, owed(ax(), 0, 0, 99, 5, sNew), 5, false, maxBase, owed(ax(), 0, 0, 0, 5+maxWait+maxBase, sNew))
	wantSent(t, c, owed(ax(), 0, 0, 99, 5, sNew), last-maxWait, false, maxBase, owed(ax(), 0, 0, 0, last, sNew))
}

// P16.2: Sent of all duties of some configs, at times around their Due and at the end, by draws of many sizes.
func TestSentOfAll(t *testing.T) {
	for _, c := range bases() {
		for _, due := range []int{0, 5, last} {
			for _, d := range duties(c, labels("a", "x", "b", "", "zone", "eu"), due) {
				for _, now := range []int{0, 4, 5, 6, last - 10, last} {
					for _, draw := range fewDraws() {
						wantTold(t, c, d, now, true, draw)
						wantTold(t, c, d, now, false, draw)
					}
				}
			}
		}
	}
}

// P16.2: all chains of one to four receivers of unlike tries, in each of four routes: the receiver is the one at the place, and the next place is the next one of that chain.
func TestSentByAllChains(t *testing.T) {
	for _, row := range chains(4) {
		for number := range 4 {
			c := full()
			c.Routes[number].Chain = row
			for _, d := range duties(c, ax(), 5) {
				if d.Route == number {
					wantTold(t, c, d, 5, false, -3)
					wantTold(t, c, d, 7, true, 3)
				}
			}
		}
	}
}

// P16.2: Sent of many configs, duties, times and draws.
func TestSentOfMany(t *testing.T) {
	r := source()
	var taken, refused, moved, away, early int
	for range 20000 {
		c := someConfig(r)
		d := someDuty(r, c)
		now := d.Due + []int{0, 1, -1, r.IntN(100), -r.IntN(100), r.IntN(1 << 41)}[r.IntN(6)]
		ok, draw := r.IntN(2) == 0, int(r.Uint64())>>r.IntN(64)
		wantTold(t, c, d, now, ok, draw)
		next, isGone, why := duty.Sent(c, d, now, ok, draw)
		switch {
		case why == api.ErrState:
			early++
		case isGone:
			away++
		case why == api.OK && ok:
			taken++
		case why == api.OK && next.Tries == 0:
			moved++
		case why == api.OK:
			refused++
		}
	}
	if min(taken, refused, moved, away, early) < 1000 {
		t.Errorf("%d taken, %d refused, %d moved, %d gone, %d too early", taken, refused, moved, away, early)
	}
}
