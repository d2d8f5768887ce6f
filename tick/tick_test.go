package tick_test

import (
	"math"
	"math/big"
	"math/rand/v2"
	"slices"
	"testing"

	"foghorn/api"
	"foghorn/tick"
)

const last = 1 << 40

// A seed that stays the same: a run that fails fails again.
func source() *rand.Rand {
	return rand.New(rand.NewPCG(11, 12))
}

// randomTime is of any length of bits alike, so that small ones come, too.
func randomTime(r *rand.Rand) int {
	return r.IntN(last>>r.IntN(41) + 1)
}

// edgeTimes are those at which something may change: both ends, and the powers of two with what stands beside them.
func edgeTimes() []int {
	l := []int{0, 3, 5, 7, 9, 10, 100, 257, 4278255361, last / 3, last/3 + 1}
	for bit := range 41 {
		for _, t := range []int{1<<bit - 1, 1 << bit, 1<<bit + 1} {
			if t <= last {
				l = append(l, t)
			}
		}
	}
	slices.Sort(l)
	return slices.Compact(l)
}

// fewTimes are for what is asked of each three.
func fewTimes() []int {
	return []int{0, 1, 2, 3, 5, 1<<20 - 1, 1 << 20, 1<<20 + 1, last / 3, 1<<39 - 1, 1 << 39, 1<<39 + 1, last - 2, last - 1, last}
}

// noTimes are below the first one and above the last one.
func noTimes() []int {
	return []int{-1, -2, -last, -last - 1, last + 1, last + 2, 2 * last, 1 << 62, -1 << 62, 1 << 32 * 257, math.MaxInt, math.MaxInt - 1, math.MinInt, math.MinInt + 1}
}

type call struct {
	name string
	of   func(a, b int) (int, api.Errno)
	want func(a, b *big.Int) *big.Int
}

// calls are those of two numbers, each with what the chapter says of it, reckoned in numbers that have no end.
func calls() []call {
	return []call{
		{"Add", tick.Add, func(a, b *big.Int) *big.Int { return new(big.Int).Add(a, b) }},
		{"Sub", tick.Sub, func(a, b *big.Int) *big.Int { return new(big.Int).Sub(a, b) }},
		{"Times", tick.Times, func(a, b *big.Int) *big.Int { return new(big.Int).Mul(a, b) }},
	}
}

// oracle is what the call must tell of two times.
func (c call) oracle(a, b int) int {
	n := c.want(big.NewInt(int64(a)), big.NewInt(int64(b)))
	switch {
	case n.Sign() < 0:
		return 0
	case n.Cmp(big.NewInt(last)) > 0:
		return last
	}
	return int(n.Int64())
}

// wantCall fails, unless the call tells this and this error.
func wantCall(t *testing.T, c call, a, b, want int, wantWhy api.Errno) {
	t.Helper()
	if got, why := c.of(a, b); got != want || why != wantWhy {
		t.Errorf("%s(%d, %d) = %d, %d, want %d, %d", c.name, a, b, got, why, want, wantWhy)
	}
}

func wantFirst(t *testing.T, l []int, want int, wantWhy api.Errno) {
	t.Helper()
	if got, why := tick.First(l); got != want || why != wantWhy {
		t.Errorf("First(%v) = %d, %d, want %d, %d", l, got, why, want, wantWhy)
	}
}

// told is what a call of two times tells, which must be a time.
func told(t *testing.T, name string, of func(a, b int) (int, api.Errno), a, b int) int {
	t.Helper()
	got, why := of(a, b)
	if why != api.OK || !tick.Right(got) {
		t.Fatalf("%s(%d, %d) = %d, %d, want a time", name, a, b, got, why)
	}
	return got
}

func add(t *testing.T, a, b int) int {
	t.Helper()
	return told(t, "Add", tick.Add, a, b)
}

func sub(t *testing.T, a, b int) int {
	t.Helper()
	return told(t, "Sub", tick.Sub, a, b)
}

func times(t *testing.T, a, b int) int {
	t.Helper()
	return told(t, "Times", tick.Times, a, b)
}

// The last time is the one that api names.
func TestLast(t *testing.T) {
	if api.MaxTick != last {
		t.Fatalf("MaxTick = %d, want %d", api.MaxTick, last)
	}
}

// P5.1: which numbers are times.
func TestRight(t *testing.T) {
	for _, c := range []struct {
		t    int
		want bool
	}{
		{-1, false},
		{0, true},
		{1, true},
		{last - 1, true},
		{last, true},
		{last + 1, false},
		{math.MinInt, false},
		{math.MaxInt, false},
	} {
		if got := tick.Right(c.t); got != c.want {
			t.Errorf("Right(%d) = %v, want %v", c.t, got, c.want)
		}
	}
	for _, n := range edgeTimes() {
		if !tick.Right(n) {
			t.Errorf("Right(%d) = false", n)
		}
	}
	for _, n := range noTimes() {
		if tick.Right(n) {
			t.Errorf("Right(%d) = true", n)
		}
	}
}

// P5.1: ErrArg, where the one, the other, or both are no times, whatever they would make; and R2: nothing is told beside it.
func TestNoTimesOfTwo(t *testing.T) {
	for _, c := range calls() {
		for _, no := range noTimes() {
			for _, yes := range edgeTimes() {
				wantCall(t, c, no, yes, 0, api.ErrArg)
				wantCall(t, c, yes, no, 0, api.ErrArg)
			}
			for _, other := range noTimes() {
				wantCall(t, c, no, other, 0, api.ErrArg)
			}
		}
	}
}

// P5.1: sums, up to the last time and beyond it; the first one is the chapter's example.
func TestAdd(t *testing.T) {
	for _, c := range []struct{ t, d, want int }{
		{last, 1, last},
		{0, 0, 0},
		{0, 1, 1},
		{1, 0, 1},
		{3, 5, 8},
		{last, 0, last},
		{0, last, last},
		{last - 1, 1, last},
		{1, last - 1, last},
		{1 << 39, 1 << 39, last},
		{last - 1, 0, last - 1},
		{last - 2, 1, last - 1},
		{1<<39 - 1, 1 << 39, last - 1},
		{1<<39 + 1, 1 << 39, last},
		{last - 1, 2, last},
		{last, last, last},
	} {
		wantCall(t, calls()[0], c.t, c.d, c.want, api.OK)
	}
}

// P5.1: what is left, from the first time on; the first one is the chapter's example.
func TestSub(t *testing.T) {
	for _, c := range []struct{ t, d, want int }{
		{3, 5, 0},
		{5, 3, 2},
		{5, 5, 0},
		{5, 4, 1},
		{5, 6, 0},
		{5, 0, 5},
		{0, 0, 0},
		{0, 1, 0},
		{1, 0, 1},
		{0, last, 0},
		{1, last, 0},
		{last, 0, last},
		{last, 1, last - 1},
		{last, last - 1, 1},
		{last, last, 0},
		{last - 1, last, 0},
	} {
		wantCall(t, calls()[1], c.t, c.d, c.want, api.OK)
	}
}

// P5.1: products, up to the last time and beyond it, and beyond what an int holds: where it would wrap to 0, to less than 0, or to a time.
func TestTimes(t *testing.T) {
	for _, c := range []struct{ t, n, want int }{
		{0, 0, 0},
		{0, 1, 0},
		{0, last, 0},
		{1, 1, 1},
		{1, 7, 7},
		{3, 5, 15},
		{1, last, last},
		{2, last, last},
		{2, 1 << 39, last},
		{1 << 20, 1 << 20, last},
		{1<<20 - 1, 1<<20 + 1, last - 1},
		{257, 4278255361, last},
		{257, 4278255360, last - 256},
		{1<<20 + 1, 1 << 20, last},
		{1 << 32, 1 << 32, last},
		{1 << 31, 1 << 33, last},
		{1 << 31, 1 << 32, last},
		{1 << 32, 1<<32 + 1, last},
		{1<<24 + 1, last, last},
		{last - 1, last, last},
		{last - 1, last - 1, last},
		{last, last, last},
	} {
		wantCall(t, calls()[2], c.t, c.n, c.want, api.OK)
		wantCall(t, calls()[2], c.n, c.t, c.want, api.OK)
	}
	if 257*4278255361 != last+1 {
		t.Error("two that make one more than the last time are asked above")
	}
}

// P5.1: all three calls, at each two edges and at many others.
func TestTwoTimes(t *testing.T) {
	r := source()
	for _, c := range calls() {
		for _, a := range edgeTimes() {
			for _, b := range edgeTimes() {
				wantCall(t, c, a, b, c.oracle(a, b), api.OK)
			}
		}
		for range 20000 {
			a, b := randomTime(r), randomTime(r)
			wantCall(t, c, a, b, c.oracle(a, b), api.OK)
		}
	}
}

// P5.1 and R3: of no times there is no first one, be the list nil or empty.
func TestFirstOfNone(t *testing.T) {
	wantFirst(t, nil, 0, api.ErrNone)
	wantFirst(t, []int{}, 0, api.ErrNone)
	wantFirst(t, []int{5, 3}[:0], 0, api.ErrNone)
	wantFirst(t, []int{-1, last + 1}[1:1], 0, api.ErrNone)
}

// P5.1: First of one, and of several, whichever place the least one has.
func TestFirst(t *testing.T) {
	for _, n := range edgeTimes() {
		wantFirst(t, []int{n}, n, api.OK)
		wantFirst(t, []int{n, n}, n, api.OK)
	}
	for n := range 8 {
		for at := range n + 1 {
			for _, least := range []int{0, 4, last - 8} {
				l := make([]int, n+1)
				for i := range l {
					l[i] = least + 1 + (i*5)%7
				}
				l[at] = least
				wantFirst(t, l, least, api.OK)
			}
		}
	}
	wantFirst(t, []int{last, 0}, 0, api.OK)
	wantFirst(t, []int{0, last}, 0, api.OK)
	wantFirst(t, []int{7, 3, 9, 3}, 3, api.OK)
	wantFirst(t, []int{3, 7, 3, 9}, 3, api.OK)
	wantFirst(t, []int{last, last - 1, last}, last-1, api.OK)
}

// P5.1: a list of any length, in any order.
func TestFirstOfMany(t *testing.T) {
	r := source()
	for n := 1; n < 300; n++ {
		l := make([]int, n)
		for i := range l {
			l[i] = randomTime(r)
		}
		sorted := slices.Sorted(slices.Values(l))
		wantFirst(t, l, sorted[0], api.OK)
		wantFirst(t, sorted, sorted[0], api.OK)
		slices.Reverse(sorted)
		wantFirst(t, sorted, sorted[n-1], api.OK)
	}
}

// P5.1: ErrArg, wherever in the list one is that is no time, also where the least one is a time.
func TestFirstOfNoTimes(t *testing.T) {
	for _, no := range noTimes() {
		wantFirst(t, []int{no}, 0, api.ErrArg)
		wantFirst(t, []int{no, no}, 0, api.ErrArg)
		wantFirst(t, []int{no, no, no, no}, 0, api.ErrArg)
		for n := range 6 {
			for at := range n + 1 {
				for _, other := range []int{0, 3, last} {
					l := slices.Repeat([]int{other}, n+1)
					l[at] = no
					wantFirst(t, l, 0, api.ErrArg)
				}
			}
		}
	}
}

// P5.1: what lies behind a list's end is not asked.
func TestFirstOfAPart(t *testing.T) {
	all := []int{1, 9, 5, 8, 2, -1}
	wantFirst(t, all[1:4], 5, api.OK)
	wantFirst(t, all[:5], 1, api.OK)
	wantFirst(t, all[1:], 0, api.ErrArg)
}

// P5.2: whatever is told is a time, also beside an error.
func TestATimeIsTold(t *testing.T) {
	all := slices.Concat(edgeTimes(), noTimes())
	for _, a := range all {
		for _, b := range all {
			for _, c := range calls() {
				if got, why := c.of(a, b); !tick.Right(got) {
					t.Errorf("%s(%d, %d) = %d, %d, no time", c.name, a, b, got, why)
				}
			}
			if got, why := tick.First([]int{a, b}); !tick.Right(got) {
				t.Errorf("First(%d, %d) = %d, %d, no time", a, b, got, why)
			}
		}
	}
}

// P5.2: the order of two does not count.
func TestOrderOfTwo(t *testing.T) {
	for _, a := range edgeTimes() {
		for _, b := range edgeTimes() {
			if add(t, a, b) != add(t, b, a) {
				t.Errorf("Add hangs on the order of %d and %d", a, b)
			}
			if times(t, a, b) != times(t, b, a) {
				t.Errorf("Times hangs on the order of %d and %d", a, b)
			}
		}
	}
}

// P5.2: which of three is done first does not count, where the last time is met, too, or where one is 0.
func TestOrderOfThree(t *testing.T) {
	wantThree := func(a, b, c int) {
		t.Helper()
		if one, other := add(t, add(t, a, b), c), add(t, a, add(t, b, c)); one != other {
			t.Errorf("Add of %d, %d and %d: %d, or %d", a, b, c, one, other)
		}
		if one, other := times(t, times(t, a, b), c), times(t, a, times(t, b, c)); one != other {
			t.Errorf("Times of %d, %d and %d: %d, or %d", a, b, c, one, other)
		}
	}
	for _, a := range fewTimes() {
		for _, b := range fewTimes() {
			for _, c := range fewTimes() {
				wantThree(a, b, c)
			}
		}
	}
	r := source()
	for range 20000 {
		wantThree(randomTime(r), randomTime(r), randomTime(r))
	}
}

// P5.2: Add rises with both: it is no less, where one of them is more, and it is more, up to the last time.
func TestAddRises(t *testing.T) {
	wantRise := func(name string, less, more int) {
		t.Helper()
		if less > more || less == more && less != last {
			t.Errorf("%s: %d is not less than %d", name, less, more)
		}
	}
	l := edgeTimes()
	for _, a := range l {
		for i := range l[1:] {
			wantRise("first", add(t, l[i], a), add(t, l[i+1], a))
			wantRise("second", add(t, a, l[i]), add(t, a, l[i+1]))
		}
	}
}

// P5.2: what is added and taken away again is as it was, unless the last time was met.
func TestAddedAndTakenAway(t *testing.T) {
	wantBack := func(a, d int) {
		t.Helper()
		sum := add(t, a, d)
		if back := sub(t, sum, d); back != a && sum != last {
			t.Errorf("%d: with %d it is %d, and without it %d", a, d, sum, back)
		}
	}
	for _, a := range edgeTimes() {
		for _, d := range edgeTimes() {
			wantBack(a, d)
		}
	}
	r := source()
	for range 20000 {
		wantBack(randomTime(r), randomTime(r))
	}
	if got := sub(t, add(t, last, 1), 1); got != last-1 {
		t.Errorf("where the last time was met, %d is left, want %d", got, last-1)
	}
}

// P1: no call panics, at the least and the greatest numbers and at long lists.
func TestNothingPanics(t *testing.T) {
	ends := []int{math.MinInt, math.MinInt + 1, -1, 0, 1, last, last + 1, math.MaxInt - 1, math.MaxInt}
	for _, a := range ends {
		tick.Right(a)
		for _, b := range ends {
			for _, c := range calls() {
				c.of(a, b)
			}
			tick.First([]int{a, b})
		}
	}
	long := slices.Repeat([]int{last}, 1<<20)
	wantFirst(t, long, last, api.OK)
	long[len(long)-1] = 0
	wantFirst(t, long, 0, api.OK)
	long[len(long)-1] = -1
	wantFirst(t, long, 0, api.ErrArg)
}

// R4: the list is as it was, and so is what lies behind it.
func TestListStays(t *testing.T) {
	for _, want := range [][]int{{9, 3, 7, 3, last, 0, 8}, {5}, {3, -1, 2, last + 1}, {-1, 3, 2}, {last, 2, 1, math.MinInt}} {
		for n := range len(want) + 1 {
			l := slices.Clone(want)
			tick.First(l[:n])
			if !slices.Equal(l, want) {
				t.Errorf("First of %d of %v made %v of them", n, want, l)
			}
		}
	}
}

// R1: a call answers the same, whatever was called ahead of it.
func TestNothingIsKept(t *testing.T) {
	for range 3 {
		for _, c := range calls() {
			wantCall(t, c, last, last, c.oracle(last, last), api.OK)
			wantCall(t, c, -1, last+1, 0, api.ErrArg)
			wantCall(t, c, 6, 2, c.oracle(6, 2), api.OK)
			wantCall(t, c, 0, 0, 0, api.OK)
		}
		wantFirst(t, []int{2, 1}, 1, api.OK)
		wantFirst(t, []int{-1}, 0, api.ErrArg)
		wantFirst(t, []int{4, 3}, 3, api.OK)
		wantFirst(t, nil, 0, api.ErrNone)
	}
}
