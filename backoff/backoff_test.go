package backoff_test

import (
	"math"
	"math/big"
	"math/rand/v2"
	"testing"

	"foghorn/api"
	"foghorn/backoff"
)

const (
	last    = 1 << 40
	maxBase = 1 << 20
	maxTop  = 1 << 30
)

// A seed that stays the same: a run that fails fails again.
func source() *rand.Rand {
	return rand.New(rand.NewPCG(13, 14))
}

func back(base, top, jitter int) api.Back {
	return api.Back{Base: base, Top: top, Jitter: jitter}
}

// topsOf are those at which the steps of a base may change: that itself, each power of two times it, with what stands beside them, and the greatest.
func topsOf(base int) []int {
	l := []int{maxTop - 1, maxTop}
	for n := range 31 {
		for _, top := range []int{base<<n - 1, base << n, base<<n + 1} {
			if top >= base && top < maxTop-1 {
				l = append(l, top)
			}
		}
	}
	return l
}

// edgeBacks are all that may be of edges of their numbers.
func edgeBacks() []api.Back {
	var l []api.Back
	for _, base := range []int{1, 2, 3, 5, 7, 1000, maxBase - 1, maxBase} {
		for i, top := range topsOf(base) {
			l = append(l, back(base, top, []int{0, 1, 3, 10, maxBase - 1, maxBase}[i%6]))
		}
	}
	return l
}

// fewBacks are for what is asked of each with many numbers.
func fewBacks() []api.Back {
	return []api.Back{
		back(1, 1, 0), back(1, 2, 1), back(2, 9, 3), back(1, maxTop, 4), back(3, 3, 6), back(maxBase, maxBase, maxBase),
		back(maxBase, maxTop, maxBase-1), back(maxBase-1, maxTop-1, 1<<19), back(1, maxTop-1, 2), back(3, 96, maxBase), back(3, 97, 0), back(3, 95, 1),
	}
}

// randomBack is of numbers of any length of bits alike, so that small ones come, too.
func randomBack(r *rand.Rand) api.Back {
	base := 1 + r.IntN(maxBase>>r.IntN(21))
	top := base + r.IntN((maxTop-base)>>r.IntN(11)+1)
	return back(base, top, r.IntN(maxBase>>r.IntN(21)+1))
}

// noBacks may not be: by one of their numbers, or by several.
func noBacks() []api.Back {
	l := []api.Back{
		{}, back(0, 1, 0), back(1, 0, 0), back(-1, 1, 0), back(-1, -1, -1), back(2, 1, 0), back(maxBase, maxBase-1, 0),
		back(maxBase+1, maxBase+1, 0), back(maxBase+1, maxTop, 0), back(1, maxTop+1, 0), back(maxBase, maxTop+1, 0), back(maxTop, maxTop, 0),
		back(1, 1, -1), back(2, 9, -1), back(2, 9, maxBase+1), back(0, 0, 0), back(0, maxTop, maxBase), back(1<<32+1, 1<<32+1, 0), back(1, 1<<32+1, 0), back(1, 1, 1<<32),
	}
	for _, end := range []int{math.MinInt, math.MinInt + 1, math.MaxInt - 1, math.MaxInt} {
		l = append(l, back(end, 9, 3), back(2, end, 3), back(2, 9, end), back(end, end, 3), back(2, end, end), back(end, 9, end), back(end, end, end))
	}
	return l
}

// draws are edges of those of a jitter.
func draws(jitter int) []int {
	return []int{
		0, 1, 2, -1, -2, -3, jitter - 1, jitter, jitter + 1, jitter + 2, 2 * (jitter + 1), 2*(jitter+1) - 1, -jitter, -jitter - 1, -jitter - 2, -2 * (jitter + 1),
		1 << 20, 1 << 32, 1<<32 - 1, -1 << 32, 1 << 62, -1 << 62, math.MaxInt, math.MaxInt - 1, math.MinInt, math.MinInt + 1,
	}
}

// doublings is how many of the first steps may be other than Top: 2 to the power of it is more than any Top, whatever the base.
const doublings = 31

// stepOf is what the chapter says of a step, reckoned in numbers that have no end.
func stepOf(b api.Back, n int) *big.Int {
	top := big.NewInt(int64(b.Top))
	if n >= doublings {
		return top
	}
	step := new(big.Int).Lsh(big.NewInt(int64(b.Base)), uint(n))
	if step.Cmp(top) > 0 {
		return top
	}
	return step
}

// allOf is what it says of the first steps together.
func allOf(b api.Back, n int) int {
	all := new(big.Int)
	for i := range min(n, doublings) {
		all.Add(all, stepOf(b, i))
	}
	if n > doublings {
		all.Add(all, new(big.Int).Mul(big.NewInt(int64(n-doublings)), big.NewInt(int64(b.Top))))
	}
	if all.Cmp(big.NewInt(last)) > 0 {
		return last
	}
	return int(all.Int64())
}

// partOf is the draw's part of the jitter. Mod is from 0 on, other than Go's own remainder.
func partOf(b api.Back, draw int) int {
	n := new(big.Int).Add(big.NewInt(int64(b.Jitter)), big.NewInt(1))
	return int(new(big.Int).Mod(big.NewInt(int64(draw)), n).Int64())
}

func wantStep(t *testing.T, b api.Back, n, want int, wantWhy api.Errno) {
	t.Helper()
	if got, why := backoff.Step(b, n); got != want || why != wantWhy {
		t.Errorf("Step(%v, %d) = %d, %d, want %d, %d", b, n, got, why, want, wantWhy)
	}
}

func wantWait(t *testing.T, b api.Back, n, draw, want int, wantWhy api.Errno) {
	t.Helper()
	if got, why := backoff.Wait(b, n, draw); got != want || why != wantWhy {
		t.Errorf("Wait(%v, %d, %d) = %d, %d, want %d, %d", b, n, draw, got, why, want, wantWhy)
	}
}

func wantAll(t *testing.T, b api.Back, n, want int, wantWhy api.Errno) {
	t.Helper()
	if got, why := backoff.All(b, n); got != want || why != wantWhy {
		t.Errorf("All(%v, %d) = %d, %d, want %d, %d", b, n, got, why, want, wantWhy)
	}
}

// wantOracle holds all three calls against the oracles.
func wantOracle(t *testing.T, b api.Back, n, draw int) {
	t.Helper()
	step := int(stepOf(b, n).Int64())
	wantStep(t, b, n, step, api.OK)
	wantWait(t, b, n, draw, step+partOf(b, draw), api.OK)
	wantAll(t, b, n, allOf(b, n), api.OK)
}

// wantErrArg fails, unless all three calls tell that and nothing beside it.
func wantErrArg(t *testing.T, b api.Back, n int) {
	t.Helper()
	wantStep(t, b, n, 0, api.ErrArg)
	wantAll(t, b, n, 0, api.ErrArg)
	for _, draw := range draws(3) {
		wantWait(t, b, n, draw, 0, api.ErrArg)
	}
}

// step is one that must be told.
func step(t *testing.T, b api.Back, n int) int {
	t.Helper()
	got, why := backoff.Step(b, n)
	if why != api.OK {
		t.Fatalf("Step(%v, %d): %d", b, n, why)
	}
	return got
}

func wait(t *testing.T, b api.Back, n, draw int) int {
	t.Helper()
	got, why := backoff.Wait(b, n, draw)
	if why != api.OK {
		t.Fatalf("Wait(%v, %d, %d): %d", b, n, draw, why)
	}
	return got
}

// The limits are those that api names.
func TestLimits(t *testing.T) {
	if api.MaxBase != maxBase || api.MaxWait != maxTop || api.MaxTick != last {
		t.Fatalf("MaxBase %d, MaxWait %d, MaxTick %d", api.MaxBase, api.MaxWait, api.MaxTick)
	}
}

// P6.1: Right, by one number at its edges.
func TestRight(t *testing.T) {
	for _, c := range []struct {
		b    api.Back
		want bool
	}{
		{back(0, 9, 3), false},
		{back(1, 9, 3), true},
		{back(maxBase, maxTop, 3), true},
		{back(maxBase+1, maxTop, 3), false},
		{back(-1, 9, 3), false},
		{back(5, 5, 3), true},
		{back(5, 4, 3), false},
		{back(5, 6, 3), true},
		{back(1, 1, 0), true},
		{back(1, 0, 0), false},
		{back(maxBase, maxBase, 0), true},
		{back(maxBase, maxBase-1, 0), false},
		{back(5, maxTop, 3), true},
		{back(5, maxTop+1, 3), false},
		{back(2, 9, -1), false},
		{back(2, 9, 0), true},
		{back(2, 9, maxBase), true},
		{back(2, 9, maxBase+1), false},
		{back(maxBase, maxTop, maxBase), true},
	} {
		if got := backoff.Right(c.b); got != c.want {
			t.Errorf("Right(%v) = %v, want %v", c.b, got, c.want)
		}
	}
	for _, b := range noBacks() {
		if backoff.Right(b) {
			t.Errorf("Right(%v) = true", b)
		}
	}
	for _, b := range edgeBacks() {
		if !backoff.Right(b) {
			t.Errorf("Right(%v) = false", b)
		}
	}
}

// P6.1: Right, by all three numbers at the edges of each, and at the ends of ints.
func TestRightOfThree(t *testing.T) {
	edges := []int{math.MinInt, math.MinInt + 1, -maxTop, -1, 0, 1, 2, 3, maxBase - 1, maxBase, maxBase + 1, maxTop - 1, maxTop, maxTop + 1, last, 1 << 62, math.MaxInt - 1, math.MaxInt}
	for _, base := range edges {
		for _, top := range edges {
			for _, jitter := range edges {
				want := 1 <= base && base <= maxBase && base <= top && top <= maxTop && 0 <= jitter && jitter <= maxBase
				if got := backoff.Right(back(base, top, jitter)); got != want {
					t.Errorf("Right(%d, %d, %d) = %v", base, top, jitter, got)
				}
			}
		}
	}
}

// P6.1: ErrArg of a back that may not be, of n below 0, and of both; and R2: nothing is told beside it.
func TestErrArg(t *testing.T) {
	below := []int{-1, -2, -maxTop, -last, -1 << 32, math.MinInt + 1, math.MinInt}
	for _, b := range noBacks() {
		for _, n := range []int{0, 1, 2, 30, 31, 64, last, math.MaxInt} {
			wantErrArg(t, b, n)
		}
		for _, n := range below {
			wantErrArg(t, b, n)
		}
	}
	for _, b := range fewBacks() {
		for _, n := range below {
			wantErrArg(t, b, n)
		}
		wantStep(t, b, 0, b.Base, api.OK)
	}
}

// P6.1 and P6.2: the chapter's examples.
func TestExamples(t *testing.T) {
	b := back(2, 9, 3)
	for n, want := range []int{2, 4, 8, 9} {
		wantStep(t, b, n, want, api.OK)
	}
	wantWait(t, b, 1, -1, 7, api.OK)
}

// P6.1: steps of tops that are the base times a power of two, and one more or less than that.
func TestStep(t *testing.T) {
	for _, c := range []struct {
		b    api.Back
		want []int
	}{
		{back(1, 1, 0), []int{1, 1, 1}},
		{back(1, 2, 0), []int{1, 2, 2, 2}},
		{back(1, 3, 0), []int{1, 2, 3, 3}},
		{back(5, 5, 0), []int{5, 5, 5}},
		{back(5, 6, 0), []int{5, 6, 6}},
		{back(5, 9, 0), []int{5, 9, 9}},
		{back(5, 10, 0), []int{5, 10, 10}},
		{back(5, 11, 0), []int{5, 10, 11, 11}},
		{back(5, 39, 0), []int{5, 10, 20, 39, 39}},
		{back(5, 40, 0), []int{5, 10, 20, 40, 40}},
		{back(5, 41, 0), []int{5, 10, 20, 40, 41, 41}},
		{back(maxBase, maxBase, 0), []int{maxBase, maxBase}},
		{back(maxBase, 1<<21+1, 0), []int{1 << 20, 1 << 21, 1<<21 + 1, 1<<21 + 1}},
	} {
		for n, want := range c.want {
			wantStep(t, c.b, n, want, api.OK)
		}
	}
	for n := range 31 {
		wantStep(t, back(1, maxTop, 0), n, 1<<n, api.OK)
	}
	wantStep(t, back(1, maxTop, 0), 31, maxTop, api.OK)
	wantStep(t, back(1, maxTop-1, 0), 29, 1<<29, api.OK)
	wantStep(t, back(1, maxTop-1, 0), 30, maxTop-1, api.OK)
}

// P6.1 and P1: behind Top each step is Top, also where 2^n is beyond what an int holds.
func TestStepBehindTop(t *testing.T) {
	for _, b := range fewBacks() {
		for _, n := range []int{31, 32, 33, 43, 44, 61, 62, 63, 64, 65, 127, 128, 256, 1 << 32, 1<<32 + 1, last, last + 1, 1 << 62, math.MaxInt - 1, math.MaxInt} {
			wantStep(t, b, n, b.Top, api.OK)
			wantWait(t, b, n, 0, b.Top, api.OK)
		}
	}
}

// P6.1: all three calls of each edge, each n up to Top and behind it.
func TestEdges(t *testing.T) {
	r := source()
	for _, b := range edgeBacks() {
		for n := range 70 {
			wantOracle(t, b, n, int(r.Uint64()))
		}
	}
}

// P6.1: all three calls of many others.
func TestSamples(t *testing.T) {
	r := source()
	for range 40000 {
		b := randomBack(r)
		if !backoff.Right(b) {
			t.Fatalf("Right(%v) = false", b)
		}
		wantOracle(t, b, r.IntN(40), int(r.Uint64()))
		wantOracle(t, b, r.Int()>>r.IntN(63), int(r.Uint64())>>r.IntN(64))
	}
}

// P6.1: waits of draws at their edges.
func TestWait(t *testing.T) {
	for _, c := range []struct{ jitter, draw, part int }{
		{3, 0, 0},
		{3, 1, 1},
		{3, 3, 3},
		{3, 4, 0},
		{3, 5, 1},
		{3, -1, 3},
		{3, -3, 1},
		{3, -4, 0},
		{3, -5, 3},
		{3, math.MaxInt, 3},
		{3, math.MinInt, 0},
		{3, math.MinInt + 1, 1},
		{2, math.MaxInt, 1},
		{2, math.MinInt, 1},
		{9, math.MaxInt, 7},
		{9, math.MinInt, 2},
		{0, 0, 0},
		{0, 1, 0},
		{0, -1, 0},
		{0, math.MaxInt, 0},
		{0, math.MinInt, 0},
		{1, -1, 1},
		{1, 2, 0},
		{maxBase, maxBase, maxBase},
		{maxBase, maxBase + 1, 0},
		{maxBase, -1, maxBase},
		{maxBase, -maxBase, 1},
		{maxBase, -maxBase - 1, 0},
		{maxBase - 1, math.MaxInt, maxBase - 1},
		{maxBase - 1, math.MinInt, 0},
	} {
		wantWait(t, back(2, 9, c.jitter), 0, c.draw, 2+c.part, api.OK)
		wantWait(t, back(2, 9, c.jitter), 2, c.draw, 8+c.part, api.OK)
		wantWait(t, back(2, 9, c.jitter), 3, c.draw, 9+c.part, api.OK)
		wantWait(t, back(maxBase, maxTop, c.jitter), math.MaxInt, c.draw, maxTop+c.part, api.OK)
	}
}

// P6.1: each draw from 0 to Jitter is its own part, and it comes again behind Jitter and 1, together, on both sides of 0.
func TestPartOfJitter(t *testing.T) {
	for jitter := range 20 {
		b := back(7, 50, jitter)
		for draw := range jitter + 1 {
			for times := -5; times <= 5; times++ {
				wantWait(t, b, 1, draw+times*(jitter+1), 14+draw, api.OK)
			}
		}
	}
}

// P6.1 and P6.2: a part is from 0 on and Jitter at most, and the same for draws that are so much apart as Jitter and 1, together.
func TestPartsApart(t *testing.T) {
	r := source()
	wantApart := func(b api.Back, draw int) {
		t.Helper()
		part := wait(t, b, 2, draw) - step(t, b, 2)
		if part < 0 || part > b.Jitter {
			t.Errorf("%v: of draw %d the part is %d", b, draw, part)
		}
		apart := b.Jitter + 1
		if draw > math.MaxInt-apart {
			apart = -apart
		}
		if other := wait(t, b, 2, draw+apart) - step(t, b, 2); other != part {
			t.Errorf("%v: of draw %d the part is %d, of %d it is %d", b, draw, part, draw+apart, other)
		}
	}
	for _, b := range edgeBacks() {
		for _, draw := range draws(b.Jitter) {
			wantApart(b, draw)
		}
		for range 10 {
			wantApart(b, int(r.Uint64()))
		}
	}
}

// P6.1: the first steps together, of none, of one and of several.
func TestAll(t *testing.T) {
	for _, c := range []struct {
		b    api.Back
		want []int
	}{
		{back(2, 9, 3), []int{0, 2, 6, 14, 23, 32}},
		{back(2, 9, 0), []int{0, 2, 6, 14, 23, 32}},
		{back(1, 1, 5), []int{0, 1, 2, 3}},
		{back(5, 5, 5), []int{0, 5, 10, 15}},
		{back(5, 6, 5), []int{0, 5, 11, 17}},
		{back(5, 10, 5), []int{0, 5, 15, 25}},
		{back(5, 11, 5), []int{0, 5, 15, 26, 37}},
	} {
		for n, want := range c.want {
			wantAll(t, c.b, n, want, api.OK)
		}
	}
	for n := range 32 {
		wantAll(t, back(1, maxTop, 0), n, 1<<n-1, api.OK)
	}
	wantAll(t, back(1, maxTop, 0), 32, 1<<31-1+maxTop, api.OK)
}

// P6.1: together they are the last time at most: one less than it, just it, and more.
func TestAllAtTheLastTime(t *testing.T) {
	for _, c := range []struct {
		b       api.Back
		n, want int
	}{
		{back(1, 1, 0), last - 1, last - 1},
		{back(1, 1, 0), last, last},
		{back(1, 1, 0), last + 1, last},
		{back(1, 2, 0), 1 << 39, last - 1},
		{back(1, 2, 0), 1<<39 + 1, last},
		{back(2, 2, 0), 1<<39 - 1, last - 2},
		{back(2, 2, 0), 1 << 39, last},
		{back(2, 2, 0), 1<<39 + 1, last},
		{back(2, 5, 0), (last+4)/5 - 1, last - 5},
		{back(2, 5, 0), (last + 4) / 5, last},
		{back(2, 5, 0), (last+4)/5 + 1, last},
		{back(3, 7, 0), (last + 5) / 7, last},
		{back(3, 7, 0), (last+5)/7 - 1, last - 7},
		{back(maxBase, maxBase, 0), maxBase - 1, last - maxBase},
		{back(maxBase, maxBase, 0), maxBase, last},
		{back(maxBase, maxBase, 0), maxBase + 1, last},
		{back(1, maxTop, 0), 30 + 1023, 1023*maxTop + maxTop - 1},
		{back(1, maxTop, 0), 30 + 1024, last},
		{back(maxBase, maxTop, 0), 10 + 1023, last - maxBase},
		{back(maxBase, maxTop, 0), 10 + 1024, last},
	} {
		wantAll(t, c.b, c.n, c.want, api.OK)
		if want := allOf(c.b, c.n); want != c.want {
			t.Errorf("All(%v, %d): %d is asked above, and %d by the oracle", c.b, c.n, c.want, want)
		}
	}
}

// P6.1 and P1: so many steps that no int holds them together: where it would wrap to 0, to less than 0, or to a time.
func TestAllOfSoMany(t *testing.T) {
	for _, n := range []int{last - 1, last, last + 1, last + 31, 1 << 41, 1<<62 - 1, 1 << 62, 1<<62 + 1, math.MaxInt - 31, math.MaxInt - 1, math.MaxInt} {
		for _, b := range fewBacks() {
			wantAll(t, b, n, allOf(b, n), api.OK)
		}
	}
	wantAll(t, back(1, 1, 0), math.MaxInt, last, api.OK)
	for _, n := range []int{1 << 33, 1 << 34, 1<<34 + 1, 1<<34 + 9, 1<<34 + 10, 1<<34 + 11, 1<<34 + 30, 1<<34 + 31, 1<<34 + 32, 1 << 35} {
		wantAll(t, back(1, maxTop, 0), n, last, api.OK)
		wantAll(t, back(maxBase, maxTop, 0), n, last, api.OK)
		wantAll(t, back(maxBase, maxTop-1, 0), n, last, api.OK)
	}
}

// P6.1: with each step more they are more by that one, up to the last time.
func TestAllGoesByStep(t *testing.T) {
	for _, b := range edgeBacks() {
		all := 0
		for n := range 60 {
			wantAll(t, b, n, all, api.OK)
			all = min(all+step(t, b, n), last)
		}
	}
}

// wantSteps fails, unless a step and the one behind it keep to the bounds.
func wantSteps(t *testing.T, b api.Back, n int) {
	t.Helper()
	one, next := step(t, b, n), step(t, b, n+1)
	if next < one || next > 2*one {
		t.Errorf("%v: step %d is %d, and the next one %d", b, n, one, next)
	}
	if one < b.Base || next > b.Top {
		t.Errorf("%v: step %d is %d, and the next one %d", b, n, one, next)
	}
	if next == one && one != b.Top {
		t.Errorf("%v: step %d is %d, and so is the next one", b, n, one)
	}
}

// P6.2: steps rise, each is at most twice the one ahead, and none is below Base or above Top.
func TestStepsRise(t *testing.T) {
	r := source()
	for _, b := range edgeBacks() {
		for n := range 40 {
			wantSteps(t, b, n)
		}
		wantSteps(t, b, math.MaxInt-1)
	}
	for range 20000 {
		wantSteps(t, randomBack(r), r.IntN(40))
	}
}

// P6.2: a wait is a step at least, and at most Jitter more.
func TestWaitIsAStepAtLeast(t *testing.T) {
	r := source()
	for _, b := range edgeBacks() {
		for n := range 33 {
			for _, draw := range append(draws(b.Jitter), int(r.Uint64())) {
				one := step(t, b, n)
				if w := wait(t, b, n, draw); w < one || w > one+b.Jitter {
					t.Errorf("%v: step %d is %d, and the wait of draw %d is %d", b, n, one, draw, w)
				}
			}
		}
	}
}

// P1: no call panics and each ends, at all arguments: each number at its ends, in any company.
func TestNothingPanics(t *testing.T) {
	ends := []int{math.MinInt, -1, 0, 1, maxBase, maxTop, last, math.MaxInt}
	for _, base := range ends {
		for _, top := range ends {
			for _, jitter := range ends {
				b := back(base, top, jitter)
				for _, n := range ends {
					if backoff.Right(b) && n >= 0 {
						wantOracle(t, b, n, math.MinInt)
						wantOracle(t, b, n, math.MaxInt)
					} else {
						wantErrArg(t, b, n)
					}
				}
			}
		}
	}
}

// R1: a call answers the same, whatever was called ahead of it.
func TestNothingIsKept(t *testing.T) {
	for range 3 {
		for _, b := range fewBacks() {
			wantOracle(t, b, math.MaxInt, -1)
			wantErrArg(t, b, -1)
			wantOracle(t, b, 5, 7)
			wantErrArg(t, back(b.Top+1, b.Top, 0), 2)
			wantOracle(t, b, 0, 0)
			wantOracle(t, b, 1, 1)
		}
	}
}
