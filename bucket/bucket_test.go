package bucket_test

import (
	"math"
	"math/big"
	"math/rand/v2"
	"testing"

	"foghorn/api"
	"foghorn/bucket"
)

const (
	maxBurst = 100
	maxEvery = 1 << 20
	last     = 1 << 40
)

// A seed that stays the same: a run that fails fails again.
func source() *rand.Rand {
	return rand.New(rand.NewPCG(17, 18))
}

func made(burst, every, have, at int) api.Bucket {
	return api.Bucket{Burst: burst, Every: every, Have: have, At: at}
}

// fewBursts and fewEverys may be, and are those at which something may change.
func fewBursts() []int {
	return []int{1, 2, 3, 50, maxBurst - 1, maxBurst}
}

func fewEverys() []int {
	return []int{1, 2, 5, 1000, maxEvery - 1, maxEvery}
}

func fewHaves(burst int) []int {
	return []int{0, min(1, burst), burst / 2, burst - 1, burst}
}

func fewTimes() []int {
	return []int{0, 1, 2, 7, maxEvery, 1 << 32, last - maxEvery, last - 2, last - 1, last}
}

func noTimes() []int {
	return []int{-1, -2, -last, last + 1, last + 2, 1 << 62, math.MinInt, math.MinInt + 1, math.MaxInt - 1, math.MaxInt}
}

func noBursts() []int {
	return []int{0, -1, -maxBurst, maxBurst + 1, maxBurst + 2, 1<<32 + 3, math.MinInt, math.MinInt + 1, math.MaxInt - 1, math.MaxInt}
}

func noEverys() []int {
	return []int{0, -1, -maxEvery, maxEvery + 1, maxEvery + 2, 1<<32 + 5, math.MinInt, math.MinInt + 1, math.MaxInt - 1, math.MaxInt}
}

// noHaves may not be of that burst.
func noHaves(burst int) []int {
	return []int{-1, -2, -maxBurst, burst + 1, burst + 2, maxBurst + 1, 1 << 32, math.MinInt, math.MinInt + 1, math.MaxInt - 1, math.MaxInt}
}

// fewBuckets may be.
func fewBuckets() []api.Bucket {
	var l []api.Bucket
	for _, burst := range fewBursts() {
		for _, every := range fewEverys() {
			for _, have := range fewHaves(burst) {
				for _, at := range fewTimes() {
					l = append(l, made(burst, every, have, at))
				}
			}
		}
	}
	return l
}

// noBuckets may not be: by one of their numbers, or by several.
func noBuckets() []api.Bucket {
	l := []api.Bucket{{}, made(0, 0, 0, 0), made(0, 5, 0, 0), made(2, 0, 0, 0), made(maxBurst+1, maxEvery+1, maxBurst+2, last+1), made(-1, -1, -1, -1), made(maxBurst+1, 5, maxBurst+1, 0)}
	for _, b := range []api.Bucket{made(1, 1, 0, 0), made(3, 5, 2, 9), made(maxBurst, maxEvery, maxBurst, last)} {
		for _, burst := range noBursts() {
			l = append(l, made(burst, b.Every, b.Have, b.At))
		}
		for _, every := range noEverys() {
			l = append(l, made(b.Burst, every, b.Have, b.At))
		}
		for _, have := range noHaves(b.Burst) {
			l = append(l, made(b.Burst, b.Every, have, b.At))
		}
		for _, at := range noTimes() {
			l = append(l, made(b.Burst, b.Every, b.Have, at))
		}
	}
	return l
}

// mayBe is what the chapter says of which buckets may be.
func mayBe(b api.Bucket) bool {
	return 1 <= b.Burst && b.Burst <= maxBurst &&
		1 <= b.Every && b.Every <= maxEvery &&
		0 <= b.Have && b.Have <= b.Burst &&
		0 <= b.At && b.At <= last
}

// filled is what the chapter says of how a bucket is filled, by numbers without an end.
func filled(b api.Bucket, now int) api.Bucket {
	n := new(big.Int).Sub(big.NewInt(int64(now)), big.NewInt(int64(b.At)))
	n.Div(n, big.NewInt(int64(b.Every)))
	have := new(big.Int).Add(n, big.NewInt(int64(b.Have)))
	if have.Cmp(big.NewInt(int64(b.Burst))) >= 0 {
		return made(b.Burst, b.Every, b.Burst, now)
	}
	at := new(big.Int).Mul(n, big.NewInt(int64(b.Every)))
	at.Add(at, big.NewInt(int64(b.At)))
	return made(b.Burst, b.Every, int(have.Int64()), int(at.Int64()))
}

// dripped goes through the ticks one by one: each Every ticks one comes in, and while it is full none is on its way.
func dripped(b api.Bucket, now int) api.Bucket {
	for t := b.At; t <= now; t++ {
		switch {
		case b.Have == b.Burst:
			b.At = t
		case t-b.At == b.Every:
			b.Have, b.At = b.Have+1, t
		}
	}
	return b
}

func wantNew(t *testing.T, burst, every, have, now int, want api.Bucket, wantWhy api.Errno) {
	t.Helper()
	if got, why := bucket.New(burst, every, have, now); got != want || why != wantWhy {
		t.Errorf("New(%d, %d, %d, %d) = %v, %d, want %v, %d", burst, every, have, now, got, why, want, wantWhy)
	}
}

func wantFill(t *testing.T, b api.Bucket, now int, want api.Bucket) {
	t.Helper()
	if got, why := bucket.Fill(b, now); got != want || why != api.OK {
		t.Errorf("Fill(%v, %d) = %v, %d, want %v", b, now, got, why, want)
	}
}

func wantTake(t *testing.T, b api.Bucket, now int, want api.Bucket, wantTaken bool) {
	t.Helper()
	if got, taken, why := bucket.Take(b, now); got != want || taken != wantTaken || why != api.OK {
		t.Errorf("Take(%v, %d) = %v, %v, %d, want %v, %v", b, now, got, taken, why, want, wantTaken)
	}
}

func wantNext(t *testing.T, b api.Bucket, now, want int) {
	t.Helper()
	if got, why := bucket.Next(b, now); got != want || why != api.OK {
		t.Errorf("Next(%v, %d) = %d, %d, want %d", b, now, got, why, want)
	}
}

// wantWhy fails, unless all three calls of a bucket tell that error and nothing beside it.
func wantWhy(t *testing.T, b api.Bucket, now int, want api.Errno) {
	t.Helper()
	if got, why := bucket.Fill(b, now); got != (api.Bucket{}) || why != want {
		t.Errorf("Fill(%v, %d) = %v, %d, want %d and nothing beside it", b, now, got, why, want)
	}
	if got, taken, why := bucket.Take(b, now); got != (api.Bucket{}) || taken || why != want {
		t.Errorf("Take(%v, %d) = %v, %v, %d, want %d and nothing beside it", b, now, got, taken, why, want)
	}
	if got, why := bucket.Next(b, now); got != 0 || why != want {
		t.Errorf("Next(%v, %d) = %d, %d, want %d and nothing beside it", b, now, got, why, want)
	}
}

// wantAll fails, unless all three calls answer what the chapter says of a bucket that is filled so.
func wantAll(t *testing.T, b api.Bucket, now int, full api.Bucket) {
	t.Helper()
	wantFill(t, b, now, full)
	if full.Have == 0 {
		wantTake(t, b, now, full, false)
		wantNext(t, b, now, min(full.At+full.Every, last))
		return
	}
	wantTake(t, b, now, made(full.Burst, full.Every, full.Have-1, full.At), true)
	wantNext(t, b, now, now)
}

// The limits are those that api names.
func TestLimits(t *testing.T) {
	if api.MaxBurst != maxBurst || api.MaxBase != maxEvery || api.MaxTick != last {
		t.Fatalf("MaxBurst %d, MaxBase %d, MaxTick %d", api.MaxBurst, api.MaxBase, api.MaxTick)
	}
}

// P8.1: Right, by one number at its edges.
func TestRight(t *testing.T) {
	for _, c := range []struct {
		b    api.Bucket
		want bool
	}{
		{made(0, 5, 0, 7), false},
		{made(1, 5, 0, 7), true},
		{made(maxBurst, 5, 0, 7), true},
		{made(maxBurst+1, 5, 0, 7), false},
		{made(2, 0, 0, 7), false},
		{made(2, 1, 0, 7), true},
		{made(2, maxEvery, 0, 7), true},
		{made(2, maxEvery+1, 0, 7), false},
		{made(2, 5, -1, 7), false},
		{made(2, 5, 0, 7), true},
		{made(2, 5, 1, 7), true},
		{made(2, 5, 2, 7), true},
		{made(2, 5, 3, 7), false},
		{made(1, 5, 1, 7), true},
		{made(1, 5, 2, 7), false},
		{made(maxBurst, 5, maxBurst, 7), true},
		{made(maxBurst, 5, maxBurst+1, 7), false},
		{made(2, 5, 0, -1), false},
		{made(2, 5, 0, 0), true},
		{made(2, 5, 0, last), true},
		{made(2, 5, 0, last+1), false},
	} {
		if got := bucket.Right(c.b); got != c.want {
			t.Errorf("Right(%v) = %v, want %v", c.b, got, c.want)
		}
	}
	for _, b := range fewBuckets() {
		if !bucket.Right(b) {
			t.Errorf("Right(%v) = false", b)
		}
	}
	for _, b := range noBuckets() {
		if bucket.Right(b) {
			t.Errorf("Right(%v) = true", b)
		}
	}
}

// P8.1: Right and New, by all four numbers at the edges of each, and at the ends of ints; and R2: nothing is told beside ErrArg.
func TestRightAndNewOfFour(t *testing.T) {
	bursts := []int{math.MinInt, -1, 0, 1, 2, 3, maxBurst - 1, maxBurst, maxBurst + 1, 1<<32 + 3, math.MaxInt}
	everys := []int{math.MinInt, -1, 0, 1, 2, maxEvery - 1, maxEvery, maxEvery + 1, 1<<32 + 5, math.MaxInt}
	haves := []int{math.MinInt, -1, 0, 1, 2, 3, 4, maxBurst - 1, maxBurst, maxBurst + 1, maxBurst + 2, 1 << 32, math.MaxInt}
	ats := []int{math.MinInt, -1, 0, 1, last - 1, last, last + 1, math.MaxInt}
	for _, burst := range bursts {
		for _, every := range everys {
			for _, have := range haves {
				for _, at := range ats {
					b := made(burst, every, have, at)
					if got := bucket.Right(b); got != mayBe(b) {
						t.Fatalf("Right(%v) = %v", b, got)
					}
					if mayBe(b) {
						wantNew(t, burst, every, have, at, b, api.OK)
					} else {
						wantNew(t, burst, every, have, at, api.Bucket{}, api.ErrArg)
					}
				}
			}
		}
	}
}

// P8.1: Right and New of each number that a bucket has, of each burst: up to that one, and no more.
func TestRightAndNewOfHaves(t *testing.T) {
	for burst := 1; burst <= maxBurst; burst++ {
		for have := -1; have <= maxBurst+1; have++ {
			b := made(burst, 5, have, 7)
			if got := bucket.Right(b); got != (have >= 0 && have <= burst) {
				t.Errorf("Right(%v) = %v", b, got)
			}
			if have < 0 || have > burst {
				wantNew(t, burst, 5, have, 7, api.Bucket{}, api.ErrArg)
			} else {
				wantNew(t, burst, 5, have, 7, b, api.OK)
			}
		}
	}
}

// P8.1: New is just that bucket; it is not filled.
func TestNew(t *testing.T) {
	for _, b := range fewBuckets() {
		wantNew(t, b.Burst, b.Every, b.Have, b.At, b, api.OK)
	}
	for _, b := range noBuckets() {
		wantNew(t, b.Burst, b.Every, b.Have, b.At, api.Bucket{}, api.ErrArg)
	}
}

// P8.1: ErrArg of a bucket that may not be, of a now that is no time, and of both; and R2: nothing is told beside it.
func TestErrArg(t *testing.T) {
	for _, b := range noBuckets() {
		for _, now := range append(fewTimes(), noTimes()...) {
			wantWhy(t, b, now, api.ErrArg)
		}
	}
	for _, b := range fewBuckets() {
		for _, now := range noTimes() {
			wantWhy(t, b, now, api.ErrArg)
		}
	}
}

// P8.1: ErrState where now is ahead of At, be it by one tick or by all of them; and R2: nothing is told beside it.
func TestErrState(t *testing.T) {
	wantWhy(t, made(2, 5, 0, 1), 0, api.ErrState)
	wantWhy(t, made(2, 5, 2, last), last-1, api.ErrState)
	wantWhy(t, made(2, 5, 2, last), 0, api.ErrState)
	for _, b := range fewBuckets() {
		for _, now := range append(fewTimes(), b.At-1, b.At-b.Every) {
			if 0 <= now && now < b.At {
				wantWhy(t, b, now, api.ErrState)
			}
		}
	}
}

// P8.1: at At, and behind it, it is the time for that.
func TestNoErrState(t *testing.T) {
	for _, at := range []int{0, 1, last - 1, last} {
		wantAll(t, made(2, 5, 1, at), at, made(2, 5, 1, at))
	}
	wantAll(t, made(2, 5, 1, 0), 1, made(2, 5, 1, 0))
	wantAll(t, made(2, 5, 1, last-1), last, made(2, 5, 1, last-1))
}

// P8.1: ErrArg ahead of ErrState, where both apply.
func TestErrArgAheadOfErrState(t *testing.T) {
	for _, b := range noBuckets() {
		for _, now := range []int{b.At - 1, 0, -1, math.MinInt} {
			if now < b.At {
				wantWhy(t, b, now, api.ErrArg)
			}
		}
	}
	for _, at := range []int{0, 1, last} {
		for _, now := range []int{-1, -2, math.MinInt} {
			wantWhy(t, made(2, 5, 0, at), now, api.ErrArg)
		}
	}
	wantWhy(t, made(2, 5, 0, last+2), last+1, api.ErrArg)
	wantWhy(t, made(0, 5, 0, 7), 6, api.ErrArg)
	wantWhy(t, made(2, 5, 3, 7), 6, api.ErrArg)
}

// P8.2 and P8.3: the chapter's examples.
func TestExamples(t *testing.T) {
	b, why := bucket.New(2, 5, 0, 0)
	if why != api.OK {
		t.Fatalf("New(2, 5, 0, 0): %d", why)
	}
	for i, c := range []struct {
		now   int
		taken bool
		left  api.Bucket
	}{
		{4, false, made(2, 5, 0, 0)},
		{5, true, made(2, 5, 0, 5)},
		{5, false, made(2, 5, 0, 5)},
		{11, true, made(2, 5, 0, 10)},
	} {
		next, taken, why := bucket.Take(b, c.now)
		if next != c.left || taken != c.taken || why != api.OK {
			t.Errorf("%d: Take(%v, %d) = %v, %v, %d", i, b, c.now, next, taken, why)
		}
		b = next
	}
}

// P8.2: Fill: At is now, where it is full then, and else At and whole times Every.
func TestFill(t *testing.T) {
	for _, c := range []struct {
		b    api.Bucket
		now  int
		want api.Bucket
	}{
		{made(3, 5, 0, 7), 7, made(3, 5, 0, 7)},
		{made(3, 5, 0, 7), 11, made(3, 5, 0, 7)},
		{made(3, 5, 0, 7), 12, made(3, 5, 1, 12)},
		{made(3, 5, 0, 7), 13, made(3, 5, 1, 12)},
		{made(3, 5, 0, 7), 16, made(3, 5, 1, 12)},
		{made(3, 5, 0, 7), 17, made(3, 5, 2, 17)},
		{made(3, 5, 0, 7), 21, made(3, 5, 2, 17)},
		{made(3, 5, 0, 7), 22, made(3, 5, 3, 22)},
		{made(3, 5, 0, 7), 23, made(3, 5, 3, 23)},
		{made(3, 5, 0, 7), 99, made(3, 5, 3, 99)},
		{made(3, 5, 0, 7), last, made(3, 5, 3, last)},
		{made(3, 5, 2, 7), 7, made(3, 5, 2, 7)},
		{made(3, 5, 2, 7), 11, made(3, 5, 2, 7)},
		{made(3, 5, 2, 7), 12, made(3, 5, 3, 12)},
		{made(3, 5, 2, 7), 13, made(3, 5, 3, 13)},
		{made(3, 5, 3, 7), 7, made(3, 5, 3, 7)},
		{made(3, 5, 3, 7), 8, made(3, 5, 3, 8)},
		{made(3, 5, 3, 7), 11, made(3, 5, 3, 11)},
		{made(3, 5, 3, 7), 12, made(3, 5, 3, 12)},
		{made(3, 5, 3, 7), last, made(3, 5, 3, last)},
		{made(1, 5, 0, 7), 11, made(1, 5, 0, 7)},
		{made(1, 5, 0, 7), 13, made(1, 5, 1, 13)},
	} {
		wantAll(t, c.b, c.now, c.want)
	}
}

// P8.2: from the first time to the last one, with the least Every and the greatest.
func TestFillFromFirstToLast(t *testing.T) {
	for _, every := range []int{1, maxEvery} {
		for _, burst := range fewBursts() {
			for _, have := range fewHaves(burst) {
				wantAll(t, made(burst, every, have, 0), last, made(burst, every, burst, last))
				wantAll(t, made(burst, every, have, last), last, made(burst, every, have, last))
			}
		}
	}
	wantAll(t, made(maxBurst, maxEvery, 0, 0), maxBurst*maxEvery-1, made(maxBurst, maxEvery, maxBurst-1, (maxBurst-1)*maxEvery))
	wantAll(t, made(maxBurst, maxEvery, 0, 0), maxBurst*maxEvery, made(maxBurst, maxEvery, maxBurst, maxBurst*maxEvery))
	wantAll(t, made(maxBurst, maxEvery, 0, 0), maxBurst*maxEvery+1, made(maxBurst, maxEvery, maxBurst, maxBurst*maxEvery+1))
	wantAll(t, made(maxBurst, 1, 0, 0), maxBurst-1, made(maxBurst, 1, maxBurst-1, maxBurst-1))
	wantAll(t, made(maxBurst, maxEvery, 0, last-maxEvery), last-1, made(maxBurst, maxEvery, 0, last-maxEvery))
	wantAll(t, made(maxBurst, maxEvery, 0, last-maxEvery), last, made(maxBurst, maxEvery, 1, last))
}

// P8.2: what is filled, taken and told to come next, around each whole number of Every, and around the time at which it is full.
func TestFillTakeAndNext(t *testing.T) {
	for _, b := range fewBuckets() {
		lacking := b.Burst - b.Have
		for _, n := range []int{0, 1, 2, lacking - 1, lacking, lacking + 1, 2 * maxBurst} {
			for _, beside := range []int{-2, -1, 0, 1, 2, b.Every / 2} {
				now := b.At + n*b.Every + beside
				if b.At <= now && now <= last {
					wantAll(t, b, now, filled(b, now))
				}
			}
		}
		for _, now := range fewTimes() {
			if b.At <= now {
				wantAll(t, b, now, filled(b, now))
			}
		}
	}
}

// P8.2: all small buckets, held against one that is gone through tick by tick.
func TestTickByTick(t *testing.T) {
	for burst := 1; burst <= 4; burst++ {
		for every := 1; every <= 5; every++ {
			for have := 0; have <= burst; have++ {
				for _, at := range []int{0, 3, last - 12} {
					for now := at; now <= at+30 && now <= last; now++ {
						b := made(burst, every, have, at)
						wantAll(t, b, now, dripped(b, now))
					}
				}
			}
		}
	}
}

// P8.2: many buckets, at many times.
func TestManyBuckets(t *testing.T) {
	r := source()
	for range 50000 {
		burst := 1 + r.IntN(maxBurst)
		b := made(burst, 1+r.IntN(maxEvery>>r.IntN(21)), r.IntN(burst+1), r.IntN(last+1)>>r.IntN(41))
		now := min(b.At+[]int{r.IntN(last + 1), r.IntN(2 * burst * b.Every), r.IntN(2 * b.Every)}[r.IntN(3)], last)
		wantAll(t, b, now, filled(b, now))
	}
}

// P8.2: Take: with 0 none is taken, and what is told is the bucket that is filled; else it is that one, with one less.
func TestTake(t *testing.T) {
	for _, c := range []struct {
		b     api.Bucket
		now   int
		want  api.Bucket
		taken bool
	}{
		{made(3, 5, 0, 7), 7, made(3, 5, 0, 7), false},
		{made(3, 5, 0, 7), 11, made(3, 5, 0, 7), false},
		{made(3, 5, 0, 7), 12, made(3, 5, 0, 12), true},
		{made(3, 5, 0, 7), 16, made(3, 5, 0, 12), true},
		{made(3, 5, 1, 7), 8, made(3, 5, 0, 7), true},
		{made(3, 5, 1, 7), 13, made(3, 5, 1, 12), true},
		{made(3, 5, 3, 7), 7, made(3, 5, 2, 7), true},
		{made(3, 5, 3, 7), 8, made(3, 5, 2, 8), true},
		{made(3, 5, 0, 7), 50, made(3, 5, 2, 50), true},
		{made(1, 5, 1, 7), 9, made(1, 5, 0, 9), true},
		{made(1, 5, 0, 7), 13, made(1, 5, 0, 13), true},
		{made(maxBurst, 5, maxBurst, 7), 9, made(maxBurst, 5, maxBurst-1, 9), true},
		{made(2, 5, 0, last), last, made(2, 5, 0, last), false},
		{made(2, 5, 1, last), last, made(2, 5, 0, last), true},
	} {
		wantTake(t, c.b, c.now, c.want, c.taken)
	}
}

// P8.2: Next: now, where one can be taken; else At and Every together of the bucket that is filled, the last time at most.
func TestNext(t *testing.T) {
	for _, c := range []struct {
		b         api.Bucket
		now, want int
	}{
		{made(3, 5, 0, 7), 7, 12},
		{made(3, 5, 0, 7), 11, 12},
		{made(3, 5, 0, 7), 12, 12},
		{made(3, 5, 0, 7), 13, 13},
		{made(3, 5, 1, 7), 7, 7},
		{made(3, 5, 1, 7), 9, 9},
		{made(3, 5, 3, 7), 9, 9},
		{made(3, 5, 0, 0), 0, 5},
		{made(3, 1, 0, 0), 0, 1},
		{made(3, maxEvery, 0, 0), 0, maxEvery},
		{made(3, 5, 0, last-6), last - 6, last - 1},
		{made(3, 5, 0, last-5), last - 5, last},
		{made(3, 5, 0, last-5), last - 1, last},
		{made(3, 5, 0, last-5), last, last},
		{made(3, 5, 0, last-4), last - 4, last},
		{made(3, 5, 0, last-4), last, last},
		{made(3, 5, 0, last), last, last},
		{made(3, 5, 1, last), last, last},
		{made(3, 1, 0, last-1), last - 1, last},
		{made(3, 1, 0, last), last, last},
		{made(3, maxEvery, 0, last-maxEvery-1), last - maxEvery, last - 1},
		{made(3, maxEvery, 0, last-maxEvery+1), last - 1, last},
		{made(3, maxEvery, 0, last), last, last},
	} {
		wantNext(t, c.b, c.now, c.want)
	}
}

// P8.1: whatever is told without an error may be, of the same Burst and Every, at a time that is neither ahead of the bucket's nor behind now.
func TestWhatIsToldMayBe(t *testing.T) {
	for _, b := range fewBuckets() {
		for _, now := range fewTimes() {
			if now < b.At {
				continue
			}
			full, _ := bucket.Fill(b, now)
			left, _, _ := bucket.Take(b, now)
			for _, got := range []api.Bucket{full, left} {
				if !bucket.Right(got) || got.Burst != b.Burst || got.Every != b.Every || got.At < b.At || got.At > now {
					t.Errorf("%v at %d: behind it %v", b, now, got)
				}
			}
		}
	}
}

// wantFewTaken fails, unless within any ticks that begin and end with a taking no more were taken than P8.3 says. Only when they were taken is looked at, never the bucket.
func wantFewTaken(t *testing.T, b api.Bucket, taken []int) {
	t.Helper()
	for i, from := range taken {
		for j, to := range taken[i:] {
			if most := b.Burst + (to-from)/b.Every; j+1 > most {
				t.Fatalf("%v: taken at %v: %d of them from %d to %d, %d at most", b, taken, j+1, from, to, most)
			}
		}
	}
}

// asked goes on with none to so many asks at each of the next times, and holds all that were taken so far.
func asked(t *testing.T, first, b api.Bucket, taken []int, now, deep int) {
	wantFewTaken(t, first, taken)
	if deep == 0 || now > last {
		return
	}
	asked(t, first, b, taken, now+1, deep-1)
	for range first.Burst + 1 {
		next, isTaken, why := bucket.Take(b, now)
		if why != api.OK {
			t.Fatalf("Take(%v, %d): %d", b, now, why)
		}
		if b = next; isTaken {
			taken = append(taken[:len(taken):len(taken)], now)
		}
		asked(t, first, b, taken, now+1, deep-1)
	}
}

// P8.3 and P4: all rows of asks at seven times, none or some at each, of small buckets.
func TestAllRowsOfSeven(t *testing.T) {
	for burst := 1; burst <= 3; burst++ {
		for every := 1; every <= 3; every++ {
			for have := 0; have <= burst; have++ {
				for _, at := range []int{0, last - 5} {
					b := made(burst, every, have, at)
					asked(t, b, b, nil, at, 7)
				}
			}
		}
	}
}

// P8.3 and P4: long rows of asks at times that rise, of many buckets.
func TestLongRows(t *testing.T) {
	r := source()
	for range 300 {
		burst := 1 + r.IntN(maxBurst>>r.IntN(7))
		first := made(burst, 1+r.IntN(maxEvery>>r.IntN(21)), r.IntN(burst+1), 0)
		first.At = []int{0, r.IntN(last), last - 30*first.Every}[r.IntN(3)]
		b, now := first, first.At
		var taken []int
		for range 400 {
			now = min(now+nextStep(r, first), last)
			next, isTaken, why := bucket.Take(b, now)
			if why != api.OK {
				t.Fatalf("Take(%v, %d): %d", b, now, why)
			}
			if b = next; isTaken {
				taken = append(taken, now)
			}
		}
		wantFewTaken(t, first, taken)
	}
}

// nextStep is often none, and often what one more takes, or one beside it.
func nextStep(r *rand.Rand, b api.Bucket) int {
	return []int{0, 0, 0, 0, 1, b.Every - 1, b.Every, b.Every + 1, r.IntN(2 * b.Every), r.IntN(2 * b.Burst * b.Every)}[r.IntN(10)]
}

// P8.3: who asks all the time is given all: from a full one Burst at once, and one more each Every ticks.
func TestJustSoMany(t *testing.T) {
	for _, burst := range fewBursts() {
		for _, every := range []int{1, 2, 3, 7} {
			for _, at := range []int{0, 11, last - 50} {
				b, sum := made(burst, every, burst, at), 0
				for now := at; now <= at+50; now++ {
					for range burst + 1 {
						next, isTaken, _ := bucket.Take(b, now)
						if b = next; isTaken {
							sum++
						}
					}
					if want := burst + (now-at)/every; sum != want {
						t.Fatalf("burst %d, every %d, from %d to %d: %d taken, want %d", burst, every, at, now, sum, want)
					}
				}
			}
		}
	}
}

// wantSameBy fails, unless a bucket that is filled at one time, and then at another one, is as filled at that one at once.
func wantSameBy(t *testing.T, b api.Bucket, by, now int) {
	t.Helper()
	way, why := bucket.Fill(b, by)
	if why != api.OK {
		t.Fatalf("Fill(%v, %d): %d", b, by, why)
	}
	once, _ := bucket.Fill(b, now)
	wantFill(t, way, now, once)
	left, taken, _ := bucket.Take(b, now)
	wantTake(t, way, now, left, taken)
	next, _ := bucket.Next(b, now)
	wantNext(t, way, now, next)
}

// P8.3: filled on the way it is as filled at once, by all small buckets and times.
func TestFilledOnTheWay(t *testing.T) {
	for burst := 1; burst <= 4; burst++ {
		for every := 1; every <= 4; every++ {
			for have := 0; have <= burst; have++ {
				for _, at := range []int{0, 3, last - 20} {
					for by := at; by <= at+20; by++ {
						for now := by; now <= at+20; now++ {
							wantSameBy(t, made(burst, every, have, at), by, now)
						}
					}
				}
			}
		}
	}
}

// P8.3: the same, by many stops of many buckets.
func TestFilledOnALongWay(t *testing.T) {
	r := source()
	for range 2000 {
		burst := 1 + r.IntN(maxBurst)
		b := made(burst, 1+r.IntN(maxEvery>>r.IntN(21)), r.IntN(burst+1), r.IntN(last+1)>>r.IntN(41))
		way, now := b, b.At
		for range 20 {
			now = min(now+r.IntN(2*b.Every), last)
			once, _ := bucket.Fill(b, now)
			wantFill(t, way, now, once)
			way, _ = bucket.Fill(way, now)
		}
	}
}

// P8.3: at Next one can be taken, and from now on at no time ahead of it, by each tick up to it.
func TestAtNextAndNotAheadOfIt(t *testing.T) {
	for burst := 1; burst <= 3; burst++ {
		for every := 1; every <= 9; every++ {
			for have := 0; have <= burst; have++ {
				for _, at := range []int{0, 7, last - 40} {
					for now := at; now <= at+30; now++ {
						b := made(burst, every, have, at)
						next, why := bucket.Next(b, now)
						if why != api.OK || next < now || next > now+every {
							t.Fatalf("Next(%v, %d) = %d, %d", b, now, next, why)
						}
						wantFirstAt(t, b, now, next)
					}
				}
			}
		}
	}
}

func wantFirstAt(t *testing.T, b api.Bucket, now, next int) {
	t.Helper()
	for at := now; at <= next; at++ {
		if _, isTaken, why := bucket.Take(b, at); isTaken != (at == next) || why != api.OK {
			t.Fatalf("Next(%v, %d) is %d, but Take at %d: %v, %d", b, now, next, at, isTaken, why)
		}
	}
}

// P8.3: the same for all Every up to the greatest, just at Next and one tick ahead of it; where the last time is in the way, nothing can be taken any more.
func TestAtNextOfGreatOnes(t *testing.T) {
	for _, b := range fewBuckets() {
		for _, now := range []int{b.At, b.At + 1, b.At + b.Every - 1, b.At + b.Every, b.At + 7*b.Every} {
			if now > last {
				continue
			}
			next, why := bucket.Next(b, now)
			if why != api.OK {
				t.Fatalf("Next(%v, %d): %d", b, now, why)
			}
			isPast := b.Have == 0 && b.At+b.Every > last
			if _, isTaken, _ := bucket.Take(b, next); isTaken == isPast {
				t.Errorf("Next(%v, %d) is %d, but Take then: %v", b, now, next, isTaken)
			}
			if next == now {
				continue
			}
			if _, isTaken, _ := bucket.Take(b, next-1); isTaken {
				t.Errorf("Next(%v, %d) is %d, but one is taken ahead of it", b, now, next)
			}
		}
	}
}

// P1: no call panics and each ends, at all arguments: each number at its ends, in any company.
func TestNothingPanics(t *testing.T) {
	ends := []int{math.MinInt, -1, 0, 1, 2, maxBurst, maxEvery, last, math.MaxInt}
	for _, burst := range ends {
		for _, every := range ends {
			for _, have := range ends {
				for _, at := range ends {
					b := made(burst, every, have, at)
					bucket.New(burst, every, have, at)
					for _, now := range ends {
						switch {
						case !mayBe(b) || now < 0 || now > last:
							wantWhy(t, b, now, api.ErrArg)
						case now < at:
							wantWhy(t, b, now, api.ErrState)
						default:
							wantAll(t, b, now, filled(b, now))
						}
					}
				}
			}
		}
	}
}

// R1: a call answers the same, whatever was called ahead of it.
func TestNothingIsKept(t *testing.T) {
	for range 3 {
		wantTake(t, made(2, 5, 1, 7), 7, made(2, 5, 0, 7), true)
		wantTake(t, made(2, 5, 1, 7), 7, made(2, 5, 0, 7), true)
		wantTake(t, made(2, 5, 0, 7), 11, made(2, 5, 0, 7), false)
		wantFill(t, made(2, 5, 0, 7), 99, made(2, 5, 2, 99))
		wantFill(t, made(2, 5, 0, 7), 12, made(2, 5, 1, 12))
		wantNext(t, made(2, 5, 0, 7), 8, 12)
		wantWhy(t, made(2, 5, 0, 7), 6, api.ErrState)
		wantWhy(t, made(2, 5, 3, 7), 6, api.ErrArg)
		wantNew(t, 2, 5, 1, 7, made(2, 5, 1, 7), api.OK)
		wantNew(t, 2, 5, 3, 7, api.Bucket{}, api.ErrArg)
	}
}
