package breaker_test

import (
	"math"
	"math/rand/v2"
	"slices"
	"testing"

	"foghorn/api"
	"foghorn/breaker"
)

const (
	maxFails = 100
	maxOpen  = 1 << 20
	last     = 1 << 40
)

// A seed that stays the same: a run that fails fails again.
func source() *rand.Rand {
	return rand.New(rand.NewPCG(15, 16))
}

func closed(fails, open, count int) api.Breaker {
	return api.Breaker{Fails: fails, Open: open, State: api.BClosed, Count: count}
}

func opened(fails, open, until int) api.Breaker {
	return api.Breaker{Fails: fails, Open: open, State: api.BOpen, Until: until}
}

func half(fails, open int) api.Breaker {
	return api.Breaker{Fails: fails, Open: open, State: api.BHalf}
}

// fewFails and fewOpens may be, and are those at which something may change.
func fewFails() []int {
	return []int{1, 2, 3, 50, maxFails - 1, maxFails}
}

func fewOpens() []int {
	return []int{1, 2, 5, 1000, maxOpen - 1, maxOpen}
}

func fewTimes() []int {
	return []int{0, 1, 2, 7, maxOpen, 1 << 32, last - maxOpen, last - 2, last - 1, last}
}

func noTimes() []int {
	return []int{-1, -2, -last, last + 1, last + 2, 1 << 62, math.MinInt, math.MinInt + 1, math.MaxInt - 1, math.MaxInt}
}

// fewBreakers may be, in each state.
func fewBreakers() []api.Breaker {
	var l []api.Breaker
	for _, fails := range fewFails() {
		for _, open := range fewOpens() {
			l = append(l, closed(fails, open, 0), closed(fails, open, fails-1), closed(fails, open, fails/2), half(fails, open))
			for _, until := range fewTimes() {
				l = append(l, opened(fails, open, until))
			}
		}
	}
	return l
}

// noBreakers may not be: by one of their numbers, or by several.
func noBreakers() []api.Breaker {
	var l []api.Breaker
	for _, b := range []api.Breaker{closed(3, 5, 0), closed(3, 5, 2), opened(3, 5, 0), opened(3, 5, 9), half(3, 5)} {
		for _, fails := range []int{0, -1, maxFails + 1, 1<<32 + 3, math.MinInt, math.MaxInt} {
			no := b
			no.Fails = fails
			l = append(l, no)
		}
		for _, open := range []int{0, -1, maxOpen + 1, 1<<32 + 5, math.MinInt, math.MaxInt} {
			no := b
			no.Open = open
			l = append(l, no)
		}
		for _, state := range []int{-1, 3, 1<<32 + 1, math.MinInt, math.MaxInt} {
			no := b
			no.State = state
			l = append(l, no)
		}
		for _, count := range []int{-1, 3, 4, maxFails, math.MinInt, math.MaxInt} {
			no := b
			no.Count = count
			l = append(l, no)
		}
		for _, until := range noTimes() {
			no := b
			no.Until = until
			l = append(l, no)
		}
	}
	return append(l,
		api.Breaker{}, closed(1, 5, 1), closed(maxFails, 5, maxFails), opened(0, 0, 0), half(0, 0), opened(0, 5, 7), opened(maxFails+1, maxOpen+1, last+1),
		api.Breaker{Fails: 3, Open: 5, State: api.BClosed, Until: 1}, api.Breaker{Fails: 3, Open: 5, State: api.BClosed, Until: last}, api.Breaker{Fails: 3, Open: 5, State: api.BClosed, Count: 2, Until: 7},
		api.Breaker{Fails: 3, Open: 5, State: api.BOpen, Count: 1, Until: 7}, api.Breaker{Fails: 3, Open: 5, State: api.BOpen, Count: 2},
		api.Breaker{Fails: 3, Open: 5, State: api.BHalf, Count: 1}, api.Breaker{Fails: 3, Open: 5, State: api.BHalf, Until: 1}, api.Breaker{Fails: 3, Open: 5, State: api.BHalf, Until: last},
	)
}

// mayBe is what the chapter says of which breakers may be.
func mayBe(b api.Breaker) bool {
	if b.Fails < 1 || b.Fails > maxFails || b.Open < 1 || b.Open > maxOpen {
		return false
	}
	switch b.State {
	case 0:
		return 0 <= b.Count && b.Count <= b.Fails-1 && b.Until == 0
	case 1:
		return b.Count == 0 && 0 <= b.Until && b.Until <= last
	case 2:
		return b.Count == 0 && b.Until == 0
	}
	return false
}

func wantNew(t *testing.T, fails, open int, want api.Breaker, wantWhy api.Errno) {
	t.Helper()
	if got, why := breaker.New(fails, open); got != want || why != wantWhy {
		t.Errorf("New(%d, %d) = %v, %d, want %v, %d", fails, open, got, why, want, wantWhy)
	}
}

func wantAsk(t *testing.T, b api.Breaker, now int, want api.Breaker, wantThrough bool, wantWhy api.Errno) {
	t.Helper()
	if got, through, why := breaker.Ask(b, now); got != want || through != wantThrough || why != wantWhy {
		t.Errorf("Ask(%v, %d) = %v, %v, %d, want %v, %v, %d", b, now, got, through, why, want, wantThrough, wantWhy)
	}
}

func wantTold(t *testing.T, b api.Breaker, now int, ok bool, want api.Breaker, wantWhy api.Errno) {
	t.Helper()
	if got, why := breaker.Told(b, now, ok); got != want || why != wantWhy {
		t.Errorf("Told(%v, %d, %v) = %v, %d, want %v, %d", b, now, ok, got, why, want, wantWhy)
	}
}

// wantErrArg fails, unless both calls of a breaker tell that and nothing beside it.
func wantErrArg(t *testing.T, b api.Breaker, now int) {
	t.Helper()
	wantAsk(t, b, now, api.Breaker{}, false, api.ErrArg)
	wantTold(t, b, now, true, api.Breaker{}, api.ErrArg)
	wantTold(t, b, now, false, api.Breaker{}, api.ErrArg)
}

// made is a breaker that New must tell.
func made(t *testing.T, fails, open int) api.Breaker {
	t.Helper()
	b, why := breaker.New(fails, open)
	if why != api.OK {
		t.Fatalf("New(%d, %d): %d", fails, open, why)
	}
	return b
}

// The limits and the states are those that api names.
func TestLimits(t *testing.T) {
	if api.MaxFails != maxFails || api.MaxBase != maxOpen || api.MaxTick != last {
		t.Fatalf("MaxFails %d, MaxBase %d, MaxTick %d", api.MaxFails, api.MaxBase, api.MaxTick)
	}
	if api.BClosed != 0 || api.BOpen != 1 || api.BHalf != 2 {
		t.Fatalf("BClosed %d, BOpen %d, BHalf %d", api.BClosed, api.BOpen, api.BHalf)
	}
}

// P7.1: Right, by one number at its edges, in each state.
func TestRight(t *testing.T) {
	for _, c := range []struct {
		b    api.Breaker
		want bool
	}{
		{closed(0, 5, 0), false},
		{closed(1, 5, 0), true},
		{closed(maxFails, 5, 0), true},
		{closed(maxFails+1, 5, 0), false},
		{opened(0, 5, 7), false},
		{opened(1, 5, 7), true},
		{opened(maxFails, 5, 7), true},
		{opened(maxFails+1, 5, 7), false},
		{half(0, 5), false},
		{half(1, 5), true},
		{half(maxFails, 5), true},
		{half(maxFails+1, 5), false},
		{closed(3, 0, 0), false},
		{closed(3, 1, 0), true},
		{closed(3, maxOpen, 0), true},
		{closed(3, maxOpen+1, 0), false},
		{opened(3, 0, 7), false},
		{opened(3, 1, 7), true},
		{opened(3, maxOpen, 7), true},
		{opened(3, maxOpen+1, 7), false},
		{half(3, 0), false},
		{half(3, 1), true},
		{half(3, maxOpen), true},
		{half(3, maxOpen+1), false},
		{api.Breaker{Fails: 3, Open: 5, State: -1}, false},
		{api.Breaker{Fails: 3, Open: 5, State: 0}, true},
		{api.Breaker{Fails: 3, Open: 5, State: 1}, true},
		{api.Breaker{Fails: 3, Open: 5, State: 2}, true},
		{api.Breaker{Fails: 3, Open: 5, State: 3}, false},
		{closed(3, 5, -1), false},
		{closed(3, 5, 2), true},
		{closed(3, 5, 3), false},
		{closed(1, 5, 1), false},
		{closed(maxFails, 5, maxFails-1), true},
		{closed(maxFails, 5, maxFails), false},
		{opened(3, 5, -1), false},
		{opened(3, 5, 0), true},
		{opened(3, 5, last), true},
		{opened(3, 5, last+1), false},
	} {
		if got := breaker.Right(c.b); got != c.want {
			t.Errorf("Right(%v) = %v, want %v", c.b, got, c.want)
		}
	}
	for _, b := range fewBreakers() {
		if !breaker.Right(b) {
			t.Errorf("Right(%v) = false", b)
		}
	}
	for _, b := range noBreakers() {
		if breaker.Right(b) {
			t.Errorf("Right(%v) = true", b)
		}
	}
}

// P7.1: Right, by all five numbers at the edges of each, and at the ends of ints.
func TestRightOfFive(t *testing.T) {
	fails := []int{math.MinInt, -1, 0, 1, 2, 3, maxFails - 1, maxFails, maxFails + 1, 1<<32 + 3, math.MaxInt}
	opens := []int{math.MinInt, -1, 0, 1, 2, maxOpen - 1, maxOpen, maxOpen + 1, 1<<32 + 5, math.MaxInt}
	states := []int{math.MinInt, -1, 0, 1, 2, 3, 1 << 32, math.MaxInt}
	counts := []int{math.MinInt, -1, 0, 1, 2, 3, maxFails - 2, maxFails - 1, maxFails, maxFails + 1, math.MaxInt}
	untils := []int{math.MinInt, -1, 0, 1, last - 1, last, last + 1, math.MaxInt}
	for _, f := range fails {
		for _, o := range opens {
			for _, s := range states {
				for _, c := range counts {
					for _, u := range untils {
						b := api.Breaker{Fails: f, Open: o, State: s, Count: c, Until: u}
						if got := breaker.Right(b); got != mayBe(b) {
							t.Fatalf("Right(%v) = %v", b, got)
						}
					}
				}
			}
		}
	}
}

// P7.1: Right of each count of each number of fails: up to one less than these, and no more.
func TestRightOfCounts(t *testing.T) {
	for fails := 1; fails <= maxFails; fails++ {
		for count := -1; count <= maxFails+1; count++ {
			b := closed(fails, 5, count)
			if got := breaker.Right(b); got != (count >= 0 && count < fails) {
				t.Errorf("Right(%v) = %v", b, got)
			}
			b.State = api.BOpen
			if got := breaker.Right(b); got != (count == 0) {
				t.Errorf("Right(%v) = %v", b, got)
			}
			b.State = api.BHalf
			if got := breaker.Right(b); got != (count == 0) {
				t.Errorf("Right(%v) = %v", b, got)
			}
		}
	}
}

// P7.1: New is a closed one, all else 0.
func TestNew(t *testing.T) {
	for fails := 1; fails <= maxFails; fails++ {
		for _, open := range fewOpens() {
			wantNew(t, fails, open, api.Breaker{Fails: fails, Open: open, State: 0, Count: 0, Until: 0}, api.OK)
		}
	}
}

// P7.1: ErrArg, where fails, open, or both are beyond what may be; and R2: nothing is told beside it.
func TestNewOfWrongNumbers(t *testing.T) {
	noFails := []int{0, -1, -maxFails, maxFails + 1, maxFails + 2, 1<<32 + 1, math.MinInt, math.MinInt + 1, math.MaxInt - 1, math.MaxInt}
	noOpens := []int{0, -1, -maxOpen, maxOpen + 1, maxOpen + 2, 1<<32 + 1, math.MinInt, math.MinInt + 1, math.MaxInt - 1, math.MaxInt}
	for _, fails := range noFails {
		for _, open := range fewOpens() {
			wantNew(t, fails, open, api.Breaker{}, api.ErrArg)
		}
		for _, open := range noOpens {
			wantNew(t, fails, open, api.Breaker{}, api.ErrArg)
		}
	}
	for _, open := range noOpens {
		for _, fails := range fewFails() {
			wantNew(t, fails, open, api.Breaker{}, api.ErrArg)
		}
	}
}

// P7.1: ErrArg of a breaker that may not be, of a now that is no time, and of both; and R2: nothing is told beside it.
func TestErrArg(t *testing.T) {
	for _, b := range noBreakers() {
		for _, now := range fewTimes() {
			wantErrArg(t, b, now)
		}
		for _, now := range noTimes() {
			wantErrArg(t, b, now)
		}
	}
	for _, b := range fewBreakers() {
		for _, now := range noTimes() {
			wantErrArg(t, b, now)
		}
	}
}

// P7.2 and P7.3: the chapter's examples.
func TestExamples(t *testing.T) {
	b := made(t, 2, 5)
	wantTold(t, b, 1, false, closed(2, 5, 1), api.OK)
	wantTold(t, closed(2, 5, 1), 2, false, opened(2, 5, 7), api.OK)
	wantAsk(t, opened(2, 5, 7), 6, opened(2, 5, 7), false, api.OK)
	wantAsk(t, opened(2, 5, 7), 7, half(2, 5), true, api.OK)
	wantAsk(t, half(2, 5), 7, half(2, 5), false, api.OK)
}

// P7.2: a closed one lets through at any time, whatever its count, and stays as it is.
func TestAskOfAClosedOne(t *testing.T) {
	for _, fails := range fewFails() {
		for _, open := range fewOpens() {
			for count := range fails {
				for _, now := range fewTimes() {
					wantAsk(t, closed(fails, open, count), now, closed(fails, open, count), true, api.OK)
				}
			}
		}
	}
}

// P7.2: an open one lets nothing through ahead of its time, and stays as it is; at its time and behind it lets through, and is half open.
func TestAskOfAnOpenOne(t *testing.T) {
	for _, fails := range fewFails() {
		for _, open := range fewOpens() {
			for _, until := range fewTimes() {
				b := opened(fails, open, until)
				for _, now := range append(fewTimes(), until-1, until, until+1) {
					switch {
					case now < 0 || now > last:
						wantErrArg(t, b, now)
					case now < until:
						wantAsk(t, b, now, b, false, api.OK)
					default:
						wantAsk(t, b, now, half(fails, open), true, api.OK)
					}
				}
			}
		}
	}
}

// P7.2: the same, at both ends of time.
func TestAskAtBothEndsOfTime(t *testing.T) {
	wantAsk(t, opened(2, 5, 0), 0, half(2, 5), true, api.OK)
	wantAsk(t, opened(2, 5, 0), 1, half(2, 5), true, api.OK)
	wantAsk(t, opened(2, 5, 0), last, half(2, 5), true, api.OK)
	wantAsk(t, opened(2, 5, 1), 0, opened(2, 5, 1), false, api.OK)
	wantAsk(t, opened(2, 5, 1), 1, half(2, 5), true, api.OK)
	wantAsk(t, opened(2, 5, last), 0, opened(2, 5, last), false, api.OK)
	wantAsk(t, opened(2, 5, last), last-1, opened(2, 5, last), false, api.OK)
	wantAsk(t, opened(2, 5, last), last, half(2, 5), true, api.OK)
	wantAsk(t, opened(2, 5, last-1), last-2, opened(2, 5, last-1), false, api.OK)
	wantAsk(t, opened(2, 5, last-1), last-1, half(2, 5), true, api.OK)
	wantAsk(t, opened(2, 5, last-1), last, half(2, 5), true, api.OK)
}

// P7.2: a half open one lets nothing through, and stays as it is.
func TestAskOfAHalfOpenOne(t *testing.T) {
	for _, fails := range fewFails() {
		for _, open := range fewOpens() {
			for _, now := range fewTimes() {
				wantAsk(t, half(fails, open), now, half(fails, open), false, api.OK)
			}
		}
	}
}

// P7.3: ErrState of an open one, ahead of its time, at it and behind it; and R2: nothing is told beside it.
func TestToldOfAnOpenOne(t *testing.T) {
	for _, fails := range fewFails() {
		for _, open := range fewOpens() {
			for _, until := range fewTimes() {
				for _, now := range fewTimes() {
					wantTold(t, opened(fails, open, until), now, true, api.Breaker{}, api.ErrState)
					wantTold(t, opened(fails, open, until), now, false, api.Breaker{}, api.ErrState)
				}
			}
		}
	}
}

// P7.1 and P7.3: ErrArg ahead of ErrState, of an open one that may not be, and of a now that is no time.
func TestErrArgAheadOfErrState(t *testing.T) {
	for _, b := range []api.Breaker{
		opened(0, 5, 7), opened(maxFails+1, 5, 7), opened(2, 0, 7), opened(2, maxOpen+1, 7), opened(2, 5, -1), opened(2, 5, last+1),
		{Fails: 2, Open: 5, State: api.BOpen, Count: 1, Until: 7}, {Fails: 2, Open: 5, State: api.BOpen, Count: -1, Until: 7},
	} {
		for _, now := range append(fewTimes(), noTimes()...) {
			wantTold(t, b, now, true, api.Breaker{}, api.ErrArg)
			wantTold(t, b, now, false, api.Breaker{}, api.ErrArg)
		}
	}
	for _, now := range noTimes() {
		wantTold(t, opened(2, 5, 7), now, true, api.Breaker{}, api.ErrArg)
		wantTold(t, opened(2, 5, 7), now, false, api.Breaker{}, api.ErrArg)
	}
}

// openedAt is what the chapter says of one that is opened at a time.
func openedAt(fails, open, now int) api.Breaker {
	return opened(fails, open, min(now+open, last))
}

// P7.3: a closed one: with ok its count is 0, whatever it was; else it is one more, and at Fails the breaker is opened.
func TestToldOfAClosedOne(t *testing.T) {
	for fails := 1; fails <= maxFails; fails++ {
		for _, open := range fewOpens() {
			for _, now := range fewTimes() {
				for count := range fails {
					wantTold(t, closed(fails, open, count), now, true, closed(fails, open, 0), api.OK)
				}
				for count := range fails - 1 {
					wantTold(t, closed(fails, open, count), now, false, closed(fails, open, count+1), api.OK)
				}
				wantTold(t, closed(fails, open, fails-1), now, false, openedAt(fails, open, now), api.OK)
			}
		}
	}
}

// P7.3: with Fails 1 one that came to nothing is enough; with 100 the ninety-ninth is not.
func TestToldOfFewestAndMostFails(t *testing.T) {
	wantTold(t, closed(1, 5, 0), 3, false, opened(1, 5, 8), api.OK)
	wantTold(t, closed(1, 5, 0), 3, true, closed(1, 5, 0), api.OK)
	wantTold(t, closed(maxFails, 5, maxFails-2), 3, false, closed(maxFails, 5, maxFails-1), api.OK)
	wantTold(t, closed(maxFails, 5, maxFails-1), 3, false, opened(maxFails, 5, 8), api.OK)
	wantTold(t, closed(maxFails, 5, maxFails-1), 3, true, closed(maxFails, 5, 0), api.OK)
}

// P7.3: a half open one: with ok it is closed, all else 0; else it is opened at once, whatever Fails is.
func TestToldOfAHalfOpenOne(t *testing.T) {
	for _, fails := range fewFails() {
		for _, open := range fewOpens() {
			for _, now := range fewTimes() {
				wantTold(t, half(fails, open), now, true, closed(fails, open, 0), api.OK)
				wantTold(t, half(fails, open), now, false, openedAt(fails, open, now), api.OK)
			}
		}
	}
}

// P7.3: it is opened until the last time at most: where now and Open together are one less than it, just it, and beyond it.
func TestToldAtTheLastTime(t *testing.T) {
	for _, c := range []struct{ open, now, until int }{
		{1, 0, 1},
		{5, 0, 5},
		{maxOpen, 0, maxOpen},
		{1, last - 2, last - 1},
		{1, last - 1, last},
		{1, last, last},
		{5, last - 6, last - 1},
		{5, last - 5, last},
		{5, last - 4, last},
		{5, last - 1, last},
		{5, last, last},
		{maxOpen, last - maxOpen - 1, last - 1},
		{maxOpen, last - maxOpen, last},
		{maxOpen, last - maxOpen + 1, last},
		{maxOpen, last, last},
	} {
		wantTold(t, closed(1, c.open, 0), c.now, false, opened(1, c.open, c.until), api.OK)
		wantTold(t, closed(maxFails, c.open, maxFails-1), c.now, false, opened(maxFails, c.open, c.until), api.OK)
		wantTold(t, half(2, c.open), c.now, false, opened(2, c.open, c.until), api.OK)
	}
}

// P7.1: whatever is told without an error may be, and is of the same Fails and Open.
func TestWhatIsToldMayBe(t *testing.T) {
	wantSame := func(b, got api.Breaker, why api.Errno) {
		t.Helper()
		if why == api.OK && (!breaker.Right(got) || got.Fails != b.Fails || got.Open != b.Open) {
			t.Errorf("%v: behind it %v", b, got)
		}
	}
	for _, b := range fewBreakers() {
		for _, now := range fewTimes() {
			got, _, why := breaker.Ask(b, now)
			wantSame(b, got, why)
			got, why = breaker.Told(b, now, true)
			wantSame(b, got, why)
			got, why = breaker.Told(b, now, false)
			wantSame(b, got, why)
		}
	}
}

// A deed is an ask or an answer, and what came of it.
type deed struct {
	at      int
	told    bool
	ok      bool
	through bool
	why     api.Errno
}

// done is the breaker behind a deed, which is told with what came of it. A refused answer leaves the breaker as it was.
func done(b api.Breaker, d deed) (api.Breaker, deed) {
	if !d.told {
		b, d.through, d.why = breaker.Ask(b, d.at)
		return b, d
	}
	next, why := breaker.Told(b, d.at, d.ok)
	d.why = why
	if why != api.OK {
		return b, d
	}
	return next, d
}

// openings are the places of the answers that opened it, as P7.4 has it: so many in a row that came to nothing, or the one behind its time. Only what was asked and told is looked at, never the breaker.
func openings(l []deed, fails int) []int {
	var found []int
	row, isTrial := 0, false
	for i, d := range l {
		switch {
		case !d.told:
			isTrial = isTrial || d.through && isOpenAhead(l[:i], found)
		case d.why == api.ErrState:
		case d.ok:
			row, isTrial = 0, false
		default:
			row++
			if isTrial || row == fails {
				found = append(found, i)
				row, isTrial = 0, false
			}
		}
	}
	return found
}

// isOpenAhead tells whether nothing was let through since it was opened.
func isOpenAhead(l []deed, openings []int) bool {
	if len(openings) == 0 {
		return false
	}
	since := l[openings[len(openings)-1]+1:]
	return !slices.ContainsFunc(since, func(d deed) bool { return d.through })
}

// wantThrough is what P7.4 says of the last deed, by those ahead of it: an ask goes through, an answer is taken, or not.
func wantThrough(l []deed, fails, open int) bool {
	ahead, d := l[:len(l)-1], l[len(l)-1]
	o := openings(ahead, fails)
	if len(o) == 0 {
		return true
	}
	at := o[len(o)-1]
	until := min(ahead[at].at+open, last)
	trial := slices.IndexFunc(ahead[at+1:], func(d deed) bool { return d.through })
	if trial < 0 {
		return !d.told && d.at >= until
	}
	isTold := slices.ContainsFunc(ahead[at+1+trial:], func(d deed) bool { return d.told })
	return d.told || isTold
}

// wantDeed fails, unless the last deed came out as P7.4 says.
func wantDeed(t *testing.T, l []deed, fails, open int) {
	t.Helper()
	d := l[len(l)-1]
	want := wantThrough(l, fails, open)
	if d.told && (d.why == api.OK) != want || !d.told && (d.through != want || d.why != api.OK) || d.told && !want && d.why != api.ErrState {
		t.Fatalf("fails %d, open %d: %v: want %v of the last", fails, open, l, want)
	}
}

// tried goes on from a breaker with each kind of deed at each of the next times, so deep.
func tried(t *testing.T, b api.Breaker, l []deed, now, deep int) {
	if deep == 0 {
		return
	}
	for step := range 2 {
		for _, d := range []deed{{}, {told: true, ok: true}, {told: true}} {
			d.at = min(now+step, last)
			next, d := done(b, d)
			l := append(l[:len(l):len(l)], d)
			wantDeed(t, l, b.Fails, b.Open)
			tried(t, next, l, d.at, deep-1)
		}
	}
}

// P7.4: all rows of six asks and answers, at the same time or a tick later each.
func TestAllRowsOfSix(t *testing.T) {
	for fails := 1; fails <= 3; fails++ {
		for open := 1; open <= 2; open++ {
			for _, now := range []int{0, last - 3} {
				tried(t, made(t, fails, open), nil, now, 6)
			}
		}
	}
}

// P7.4: long rows of asks and answers at times that rise, of many breakers.
func TestLongRows(t *testing.T) {
	r := source()
	for range 300 {
		b := made(t, 1+r.IntN(maxFails>>r.IntN(7)), 1+r.IntN(maxOpen>>r.IntN(21)))
		now := []int{0, r.IntN(last), last - 3*b.Open}[r.IntN(3)]
		okay := r.IntN(6)
		var l []deed
		for range 200 {
			now = min(now+nextStep(r, b.Open), last)
			next, d := done(b, deed{at: now, told: r.IntN(4) > 0, ok: r.IntN(60) < okay})
			l = append(l, d)
			wantDeed(t, l, b.Fails, b.Open)
			b = next
		}
	}
}

// nextStep is often none, and often what an open one waits, or one beside it.
func nextStep(r *rand.Rand, open int) int {
	return []int{0, 0, 0, 0, 1, 2, open - 1, open, open + 1, r.IntN(2 * open)}[r.IntN(10)]
}

// P7.4: from its opening on nothing goes through, tick by tick, till its time has come; then one ask, and no other one till that is told.
func TestOneAskWhenItsTimeHasCome(t *testing.T) {
	for _, fails := range fewFails() {
		b := made(t, fails, 20)
		for range fails {
			b, _ = breaker.Told(b, 100, false)
		}
		for round := range 5 {
			until := 120 + 50*round
			for now := until - 20; now < until; now++ {
				wantAsk(t, b, now, opened(fails, 20, until), false, api.OK)
				wantTold(t, b, now, true, api.Breaker{}, api.ErrState)
			}
			wantAsk(t, b, until, half(fails, 20), true, api.OK)
			b, _, _ = breaker.Ask(b, until)
			for now := until; now < until+30; now++ {
				wantAsk(t, b, now, b, false, api.OK)
			}
			wantTold(t, b, until+30, true, closed(fails, 20, 0), api.OK)
			b, _ = breaker.Told(b, until+30, false)
		}
	}
}

// P7.4: it is opened by just so many in a row: one fewer are not enough, nor are more of them with an ok between.
func TestJustSoManyInARow(t *testing.T) {
	for fails := 1; fails <= maxFails; fails++ {
		b := made(t, fails, 5)
		for round := range 3 {
			for count := range fails - 1 {
				wantTold(t, b, round, false, closed(fails, 5, count+1), api.OK)
				b, _ = breaker.Told(b, round, false)
			}
			wantAsk(t, b, round, b, true, api.OK)
			wantTold(t, b, round, false, opened(fails, 5, round+5), api.OK)
			b, _ = breaker.Told(b, round, true)
		}
	}
}

// P1: no call panics and each ends, at all arguments: each number at its ends, in any company.
func TestNothingPanics(t *testing.T) {
	ends := []int{math.MinInt, -1, 0, 1, 2, maxOpen, last, math.MaxInt}
	for _, fails := range ends {
		for _, open := range ends {
			breaker.New(fails, open)
			for _, state := range ends {
				for _, count := range ends {
					for _, until := range ends {
						b := api.Breaker{Fails: fails, Open: open, State: state, Count: count, Until: until}
						for _, now := range ends {
							if !mayBe(b) || now < 0 || now > last {
								wantErrArg(t, b, now)
							} else if _, _, why := breaker.Ask(b, now); why != api.OK {
								t.Errorf("Ask(%v, %d): %d", b, now, why)
							}
						}
					}
				}
			}
		}
	}
}

// R1: a call answers the same, whatever was called ahead of it.
func TestNothingIsKept(t *testing.T) {
	for range 3 {
		wantTold(t, closed(2, 5, 1), 2, false, opened(2, 5, 7), api.OK)
		wantTold(t, closed(2, 5, 0), 2, false, closed(2, 5, 1), api.OK)
		wantErrArg(t, closed(2, 5, 2), 2)
		wantAsk(t, opened(2, 5, 7), 7, half(2, 5), true, api.OK)
		wantAsk(t, opened(2, 5, 7), 7, half(2, 5), true, api.OK)
		wantAsk(t, opened(2, 5, 7), 6, opened(2, 5, 7), false, api.OK)
		wantTold(t, opened(2, 5, 7), 7, true, api.Breaker{}, api.ErrState)
		wantAsk(t, half(2, 5), 7, half(2, 5), false, api.OK)
		wantTold(t, half(2, 5), 1, true, closed(2, 5, 0), api.OK)
		wantTold(t, half(2, 5), 1, false, opened(2, 5, 6), api.OK)
		wantNew(t, 2, 5, closed(2, 5, 0), api.OK)
		wantNew(t, 0, 5, api.Breaker{}, api.ErrArg)
	}
}
