package due_test

import (
	"math"
	"math/rand/v2"
	"slices"
	"testing"

	"foghorn/api"
	"foghorn/due"
)

const (
	maxDues = 64
	last    = 1 << 40
)

// A seed that stays the same: a run that fails fails again.
func source() *rand.Rand {
	return rand.New(rand.NewPCG(19, 20))
}

func made(at, id int) api.Due {
	return api.Due{At: at, Id: id}
}

// dues are of each two numbers: a time, and what it is told apart by.
func dues(numbers ...int) []api.Due {
	var l []api.Due
	for i := 0; i < len(numbers); i += 2 {
		l = append(l, made(numbers[i], numbers[i+1]))
	}
	return l
}

func noTimes() []int {
	return []int{-1, -2, -last, last + 1, last + 2, 1 << 62, math.MinInt, math.MinInt + 1, math.MaxInt - 1, math.MaxInt}
}

func fewTimes() []int {
	return []int{0, 1, 2, 7, 1 << 20, 1 << 32, last - 2, last - 1, last}
}

func fewIds() []int {
	return []int{0, 1, -1, 7, -64, 64, last + 1, -last, math.MinInt, math.MinInt + 1, math.MaxInt - 1, math.MaxInt}
}

// many are n of so many times and numbers, also negative ones; of few of these some are alike.
func many(r *rand.Rand, n, times, ids int) []api.Due {
	l := make([]api.Due, n)
	for i := range l {
		l[i] = made(r.IntN(times), r.IntN(ids)-ids/2)
	}
	return l
}

// rows are lists that may be, of all lengths.
func rows() [][]api.Due {
	r := source()
	l := [][]api.Due{nil, {}, dues(5, 1, 3, 9, 3, 2)}
	for _, at := range fewTimes() {
		for _, id := range fewIds() {
			l = append(l, dues(at, id), dues(at, id, at, id), dues(last, 0, at, id, 0, 0))
		}
	}
	for n := range maxDues + 1 {
		l = append(l, many(r, n, last+1, math.MaxInt), many(r, n, 5, 3), many(r, n, 1, 100), many(r, n, 100, 1))
	}
	return l
}

// noRows are lists that may not be: one too many or more, or one of no time at some place.
func noRows() [][]api.Due {
	l := [][]api.Due{make([]api.Due, maxDues+1), make([]api.Due, maxDues+2), slices.Repeat(dues(7, 1), 1000)}
	for _, no := range noTimes() {
		for _, n := range []int{1, 2, 3, maxDues - 1, maxDues, maxDues + 1} {
			for _, place := range []int{0, n / 2, n - 1} {
				bad := slices.Repeat(dues(7, 1), n)
				bad[place].At = no
				l = append(l, bad)
			}
		}
		l = append(l, slices.Repeat(dues(no, 0), maxDues))
	}
	return l
}

// isAhead is what the chapter says of who comes ahead of whom.
func isAhead(a, b api.Due) bool {
	if a.At != b.At {
		return a.At < b.At
	}
	return a.Id < b.Id
}

// counts are how many there are of each.
func counts(lists ...[]api.Due) map[api.Due]int {
	m := map[api.Due]int{}
	for _, l := range lists {
		for _, d := range l {
			m[d]++
		}
	}
	return m
}

// areAlike tells whether there are as many of each, in any order.
func areAlike(a, b map[api.Due]int) bool {
	if len(a) != len(b) {
		return false
	}
	for d, n := range a {
		if b[d] != n {
			return false
		}
	}
	return true
}

// without is what is left of a list, if one like that is taken out.
func without(l []api.Due, d api.Due) []api.Due {
	at := slices.Index(l, d)
	if at < 0 {
		return nil
	}
	return slices.Delete(slices.Clone(l), at, at+1)
}

// ordered picks the ones that none comes ahead of one by one.
func ordered(l []api.Due) []api.Due {
	var row []api.Due
	for l = slices.Clone(l); len(l) > 0; {
		first := l[0]
		for _, d := range l {
			if isAhead(d, first) {
				first = d
			}
		}
		row, l = append(row, first), without(l, first)
	}
	return row
}

// upTo are those of a list that are due at a time, and behind are all others.
func upTo(l []api.Due, now int) (upTo, behind []api.Due) {
	for _, d := range l {
		if d.At <= now {
			upTo = append(upTo, d)
		} else {
			behind = append(behind, d)
		}
	}
	return upTo, behind
}

func push(t *testing.T, l []api.Due, d api.Due) []api.Due {
	t.Helper()
	got, why := due.Push(l, d)
	if why != api.OK || !areAlike(counts(got), counts(l, []api.Due{d})) || len(got) != len(l)+1 {
		t.Fatalf("Push(%v, %v) = %v, %d", l, d, got, why)
	}
	return got
}

func pop(t *testing.T, l []api.Due) ([]api.Due, api.Due) {
	t.Helper()
	left, first, why := due.Pop(l)
	if why != api.OK || !areAlike(counts(left, []api.Due{first}), counts(l)) || len(left) != len(l)-1 {
		t.Fatalf("Pop(%v) = %v, %v, %d", l, left, first, why)
	}
	for _, d := range left {
		if isAhead(d, first) {
			t.Fatalf("Pop(%v): %v, but %v comes ahead of it", l, first, d)
		}
	}
	return left, first
}

func drain(t *testing.T, l []api.Due, now int) (left, out []api.Due) {
	t.Helper()
	left, out, why := due.Drain(l, now)
	wantOut, wantLeft := upTo(l, now)
	if why != api.OK || !slices.Equal(out, ordered(wantOut)) || !areAlike(counts(left), counts(wantLeft)) || len(left) != len(wantLeft) {
		t.Fatalf("Drain(%v, %d) = %v, %v, %d", l, now, left, out, why)
	}
	return left, out
}

func wantPushWhy(t *testing.T, l []api.Due, d api.Due, want api.Errno) {
	t.Helper()
	if got, why := due.Push(l, d); len(got) != 0 || why != want {
		t.Errorf("Push(%v, %v) = %v, %d, want %d and nothing beside it", l, d, got, why, want)
	}
}

func wantPopWhy(t *testing.T, l []api.Due, want api.Errno) {
	t.Helper()
	if left, first, why := due.Pop(l); len(left) != 0 || first != (api.Due{}) || why != want {
		t.Errorf("Pop(%v) = %v, %v, %d, want %d and nothing beside it", l, left, first, why, want)
	}
}

func wantDrainWhy(t *testing.T, l []api.Due, now int, want api.Errno) {
	t.Helper()
	if left, out, why := due.Drain(l, now); len(left) != 0 || len(out) != 0 || why != want {
		t.Errorf("Drain(%v, %d) = %v, %v, %d, want %d and nothing beside it", l, now, left, out, why, want)
	}
}

// The limits are those that api names.
func TestLimits(t *testing.T) {
	if api.MaxDues != maxDues || api.MaxTick != last {
		t.Fatalf("MaxDues %d, MaxTick %d", api.MaxDues, api.MaxTick)
	}
}

// P9.1: Right, by how many there are.
func TestRightByLength(t *testing.T) {
	for n := range 200 {
		for _, d := range dues(0, 0, 7, 1, last, -1) {
			if got := due.Right(slices.Repeat([]api.Due{d}, n)); got != (n <= maxDues) {
				t.Errorf("Right of %d of %v = %v", n, d, got)
			}
		}
	}
	if !due.Right(nil) || !due.Right([]api.Due{}) || !due.Right(dues(-1, 0)[:0]) {
		t.Error("Right of no list, or of an empty one: false")
	}
	if !due.Right(make([]api.Due, 1000)[:maxDues]) {
		t.Error("Right asks what lies behind a list's end")
	}
}

// P9.1: Right, by one time, at the first, a middle and the last place.
func TestRightByTime(t *testing.T) {
	for _, c := range []struct {
		at   int
		want bool
	}{
		{-1, false},
		{0, true},
		{1, true},
		{last - 1, true},
		{last, true},
		{last + 1, false},
		{math.MinInt, false},
		{math.MaxInt, false},
	} {
		for _, n := range []int{1, 2, 3, 10, maxDues - 1, maxDues} {
			for _, place := range []int{0, n / 2, n - 1} {
				l := slices.Repeat(dues(7, 1), n)
				l[place].At = c.at
				if got := due.Right(l); got != c.want {
					t.Errorf("Right with %d at place %d of %d = %v", c.at, place, n, got)
				}
			}
		}
	}
}

// P9.1: Right does not ask the numbers.
func TestRightByNumber(t *testing.T) {
	for _, id := range fewIds() {
		for _, n := range []int{1, 2, maxDues} {
			if !due.Right(slices.Repeat(dues(7, id), n)) {
				t.Errorf("Right of %d with number %d = false", n, id)
			}
			if due.Right(slices.Repeat(dues(-1, id), n)) || due.Right(slices.Repeat(dues(last+1, id), n)) {
				t.Errorf("Right of %d of no time, with number %d = true", n, id)
			}
		}
	}
}

// P9.1: Right of many lists.
func TestRightOfMany(t *testing.T) {
	for _, l := range rows() {
		if !due.Right(l) {
			t.Errorf("Right(%v) = false", l)
		}
	}
	for _, l := range noRows() {
		if due.Right(l) {
			t.Errorf("Right(%v) = true", l)
		}
	}
}

// P9.1: Push, Pop and Drain: ErrArg of a list that may not be, whatever else is handed; and R2: nothing is told beside it.
func TestNoLists(t *testing.T) {
	for _, l := range noRows() {
		wantPushWhy(t, l, made(7, 1), api.ErrArg)
		wantPushWhy(t, l, made(-1, 1), api.ErrArg)
		wantPopWhy(t, l, api.ErrArg)
		for _, now := range []int{0, 7, last} {
			wantDrainWhy(t, l, now, api.ErrArg)
		}
		for _, now := range noTimes() {
			wantDrainWhy(t, l, now, api.ErrArg)
		}
	}
}

// P9.1: Push: ErrArg of a due of no time, and ahead of ErrFull, too.
func TestPushOfNoTime(t *testing.T) {
	for _, no := range noTimes() {
		for _, id := range fewIds() {
			for _, n := range []int{0, 1, 2, maxDues - 1, maxDues} {
				wantPushWhy(t, slices.Repeat(dues(7, 1), n), made(no, id), api.ErrArg)
			}
		}
	}
}

// P9.1: Push: ErrFull of 64, whatever they are, and also where one like it is there.
func TestPushToAFullOne(t *testing.T) {
	r := source()
	for _, l := range [][]api.Due{slices.Repeat(dues(7, 1), maxDues), make([]api.Due, maxDues), many(r, maxDues, last+1, math.MaxInt), make([]api.Due, maxDues, 1000)} {
		for _, d := range append(dues(7, 1, 0, 0, last, -1, last, math.MaxInt), l[5]) {
			wantPushWhy(t, l, d, api.ErrFull)
		}
		push(t, l[1:], made(7, 1))
	}
}

// P9.1: Push: these and that one, be there one like it, and whatever order they lie in.
func TestPush(t *testing.T) {
	for _, l := range rows() {
		if len(l) == maxDues {
			continue
		}
		for _, d := range dues(0, 0, 7, 1, 2, -1, 3, 9, last, math.MinInt, last, math.MaxInt) {
			push(t, l, d)
		}
		if len(l) > 0 {
			push(t, l, l[0])
			push(t, l, l[len(l)/2])
			push(t, l, l[len(l)-1])
		}
	}
	for _, at := range fewTimes() {
		for _, id := range fewIds() {
			push(t, nil, made(at, id))
			push(t, dues(7, 1), made(at, id))
		}
	}
}

// P9.1 and R3: Pop: ErrNone, where there are none, be the list nil or empty; and R2: nothing is told beside it.
func TestPopOfNone(t *testing.T) {
	wantPopWhy(t, nil, api.ErrNone)
	wantPopWhy(t, []api.Due{}, api.ErrNone)
	wantPopWhy(t, dues(7, 1)[:0], api.ErrNone)
	wantPopWhy(t, dues(7, 1, -1, 2)[1:1], api.ErrNone)
}

// P9.1: Pop, by what comes ahead: the lesser time, and where times are the same the lesser number.
func TestPop(t *testing.T) {
	for _, c := range []struct {
		l    []api.Due
		want api.Due
	}{
		{dues(7, 1), made(7, 1)},
		{dues(0, 0), made(0, 0)},
		{dues(last, math.MinInt), made(last, math.MinInt)},
		{dues(5, 1, 3, 9), made(3, 9)},
		{dues(3, 9, 5, 1), made(3, 9)},
		{dues(5, math.MinInt, 4, math.MaxInt), made(4, math.MaxInt)},
		{dues(5, 1, 3, 9, 3, 2), made(3, 2)},
		{dues(3, 2, 3, 9, 5, 1), made(3, 2)},
		{dues(3, 9, 3, 2), made(3, 2)},
		{dues(3, 0, 3, -1), made(3, -1)},
		{dues(3, -1, 3, -2), made(3, -2)},
		{dues(3, -2, 3, 1, 3, -1), made(3, -2)},
		{dues(3, math.MaxInt, 3, math.MinInt), made(3, math.MinInt)},
		{dues(3, math.MinInt, 3, math.MaxInt), made(3, math.MinInt)},
		{dues(3, 1, 3, math.MinInt), made(3, math.MinInt)},
		{dues(3, 10, 3, 9), made(3, 9)},
		{dues(3, 2, 3, 2), made(3, 2)},
		{dues(4, 1, 3, 2, 4, 0, 3, 2), made(3, 2)},
		{dues(last, 0, 0, 5), made(0, 5)},
		{dues(0, 5, last, 0), made(0, 5)},
		{dues(last, 1, last-1, 2), made(last-1, 2)},
	} {
		if _, got := pop(t, c.l); got != c.want {
			t.Errorf("Pop(%v): %v, want %v", c.l, got, c.want)
		}
	}
	for _, l := range rows() {
		if len(l) > 0 {
			pop(t, l)
		}
	}
}

// P9.1: Pop: the first one is found at every place.
func TestPopAtEachPlace(t *testing.T) {
	for n := 1; n <= maxDues; n++ {
		for place := range n {
			for _, first := range dues(6, 50, 7, 49) {
				l := slices.Repeat(dues(7, 50), n)
				l[place] = first
				if _, got := pop(t, l); got != first {
					t.Errorf("Pop of %d: %v, want %v of place %d", n, got, first, place)
				}
			}
		}
	}
}

// P9.2: Drain: ErrArg of a now that is no time.
func TestDrainAtNoTime(t *testing.T) {
	for _, now := range noTimes() {
		wantDrainWhy(t, nil, now, api.ErrArg)
		wantDrainWhy(t, []api.Due{}, now, api.ErrArg)
		wantDrainWhy(t, dues(0, 0, 7, 1, last, 2), now, api.ErrArg)
		wantDrainWhy(t, make([]api.Due, maxDues), now, api.ErrArg)
	}
}

// P9.2: the chapter's example.
func TestExample(t *testing.T) {
	left, out, why := due.Drain(dues(5, 1, 3, 9, 3, 2), 4)
	if !slices.Equal(left, dues(5, 1)) || !slices.Equal(out, dues(3, 2, 3, 9)) || why != api.OK {
		t.Errorf("Drain: left %v; %v, %d", left, out, why)
	}
}

// P9.2: one tick ahead of a due's time, at that time, and one behind it.
func TestDrainAroundATime(t *testing.T) {
	for _, at := range fewTimes() {
		for _, id := range fewIds() {
			for _, now := range []int{at - 1, at, at + 1} {
				if now < 0 || now > last {
					continue
				}
				if left, out := drain(t, dues(at, id), now); len(left) == 1 != (now < at) || len(out) == 1 != (now >= at) {
					t.Errorf("Drain of %d at %d: left %v; %v", at, now, left, out)
				}
				drain(t, dues(at, id, at, id, at, 0), now)
				drain(t, dues(last, 0, at, id, 0, 0, at, -id), now)
			}
		}
	}
}

// P9.2: none of them, some, and all are due; with the first and the last time as now.
func TestDrain(t *testing.T) {
	for _, c := range []struct {
		l         []api.Due
		now       int
		left, out []api.Due
	}{
		{nil, 0, nil, nil},
		{nil, last, nil, nil},
		{[]api.Due{}, 7, nil, nil},
		{dues(5, 1), 4, dues(5, 1), nil},
		{dues(5, 1), 5, nil, dues(5, 1)},
		{dues(0, 1), 0, nil, dues(0, 1)},
		{dues(1, 1), 0, dues(1, 1), nil},
		{dues(last, 1), last - 1, dues(last, 1), nil},
		{dues(last, 1), last, nil, dues(last, 1)},
		{dues(5, 1, 3, 9, 3, 2), 2, dues(3, 2, 3, 9, 5, 1), nil},
		{dues(5, 1, 3, 9, 3, 2), 3, dues(5, 1), dues(3, 2, 3, 9)},
		{dues(5, 1, 3, 9, 3, 2), 5, nil, dues(3, 2, 3, 9, 5, 1)},
		{dues(5, 1, 3, 9, 3, 2), last, nil, dues(3, 2, 3, 9, 5, 1)},
		{dues(0, 3, 1, 0, 0, -3, 0, 0), 0, dues(1, 0), dues(0, -3, 0, 0, 0, 3)},
		{dues(7, 2, 7, 2, 6, 2, 7, 2), 7, nil, dues(6, 2, 7, 2, 7, 2, 7, 2)},
		{dues(7, 2, 7, 2, 6, 2, 7, 2), 6, dues(7, 2, 7, 2, 7, 2), dues(6, 2)},
		{dues(3, math.MaxInt, 3, math.MinInt, 3, 0), 3, nil, dues(3, math.MinInt, 3, 0, 3, math.MaxInt)},
		{dues(3, math.MinInt, 2, math.MaxInt), 3, nil, dues(2, math.MaxInt, 3, math.MinInt)},
	} {
		if left, out := drain(t, c.l, c.now); !slices.Equal(ordered(left), c.left) || !slices.Equal(out, c.out) {
			t.Errorf("Drain(%v, %d): left %v; %v", c.l, c.now, left, out)
		}
	}
	for _, l := range rows() {
		for _, now := range []int{0, 1, 2, 3, 4, 7, 50, last / 2, last - 1, last} {
			drain(t, l, now)
		}
	}
}

// P9.2: of 64 none to all are due, in order, the other way round, and mixed.
func TestDrainOf64(t *testing.T) {
	r := source()
	for n := range maxDues + 1 {
		l := append(many(r, n, 100, 9), slices.Repeat(dues(100, 1), maxDues-n)...)
		r.Shuffle(len(l), func(i, j int) { l[i], l[j] = l[j], l[i] })
		if left, out := drain(t, l, 99); len(left) != maxDues-n || len(out) != n {
			t.Errorf("Drain of 64: %d left; %d, want %d of them", len(left), len(out), n)
		}
		drain(t, ordered(l), 99)
		reversed := ordered(l)
		slices.Reverse(reversed)
		drain(t, reversed, 99)
	}
}

// popped is all that Pop tells, one by one, till there are none.
func popped(t *testing.T, l []api.Due) []api.Due {
	t.Helper()
	var row []api.Due
	for len(l) > 0 {
		left, first := pop(t, l)
		row, l = append(row, first), left
	}
	wantPopWhy(t, l, api.ErrNone)
	return row
}

func pushed(t *testing.T, row []api.Due) []api.Due {
	t.Helper()
	var l []api.Due
	for _, d := range row {
		l = push(t, l, d)
	}
	return l
}

// orders calls with each order of a list.
func orders(l []api.Due, from int, with func([]api.Due)) {
	if from == len(l) {
		with(l)
		return
	}
	for i := from; i < len(l); i++ {
		l[from], l[i] = l[i], l[from]
		orders(l, from+1, with)
		l[from], l[i] = l[i], l[from]
	}
}

// P9.3: what is pushed in each order of six or fewer is popped once, in order; the same is so of Drain.
func TestPushedInEachOrder(t *testing.T) {
	for _, l := range [][]api.Due{
		dues(5, 1, 3, 9, 3, 2),
		dues(1, 1, 2, 2, 3, 3, 4, 4, 5, 5),
		dues(7, 1, 7, -1, 7, 0, 7, 2, 7, -2),
		dues(7, 1, 7, 1, 3, 1, 3, 1, 9, -1),
		dues(0, math.MaxInt, 0, math.MinInt, last, math.MinInt, last, math.MaxInt, last-1, 0, 1, 0),
		dues(4, 4, 4, 4, 4, 4, 4, 3),
	} {
		want := ordered(l)
		orders(l, 0, func(order []api.Due) {
			all := pushed(t, order)
			if got := popped(t, all); !slices.Equal(got, want) {
				t.Fatalf("pushed as %v, popped as %v", order, got)
			}
			if _, out := drain(t, all, last); !slices.Equal(out, want) {
				t.Fatalf("pushed as %v, drained as %v", order, out)
			}
		})
	}
}

// P9.3: many are pushed in several orders, and popped once, in order.
func TestManyPushedAndPopped(t *testing.T) {
	r := source()
	for n := range maxDues + 1 {
		for _, of := range [][2]int{{last + 1, math.MaxInt}, {n/2 + 1, 5}, {1, 7}, {7, 1}} {
			row := many(r, n, of[0], of[1])
			want := ordered(row)
			reversed := slices.Clone(want)
			slices.Reverse(reversed)
			for _, order := range [][]api.Due{row, want, reversed} {
				if got := popped(t, pushed(t, order)); !slices.Equal(got, want) {
					t.Fatalf("pushed as %v, popped as %v", order, got)
				}
			}
		}
	}
}

// P9.3: pushes, pops and drains in any row, held against a list of all that is there.
func TestManyCalls(t *testing.T) {
	r := source()
	for range 100 {
		var l, model []api.Due
		times := 1 << r.IntN(41)
		for range 300 {
			switch d := many(r, 1, times, 5)[0]; {
			case r.IntN(100) == 0:
				l, _ = drain(t, l, d.At)
				_, model = upTo(model, d.At)
			case r.IntN(3) == 0 && len(l) > 0:
				left, first := pop(t, l)
				l, model = left, without(model, first)
			case len(l) < maxDues:
				l, model = push(t, l, d), append(model, d)
			}
			if !areAlike(counts(l), counts(model)) {
				t.Fatalf("there are %v, want %v", l, model)
			}
		}
	}
}

// wantSameTwice fails, unless dues drained at a time and then at another one are as drained at that one at once.
func wantSameTwice(t *testing.T, l []api.Due, by, now int) {
	t.Helper()
	left, out := drain(t, l, by)
	late, more := drain(t, left, now)
	once, all := drain(t, l, now)
	if !slices.Equal(slices.Concat(out, more), all) || !areAlike(counts(late), counts(once)) {
		t.Fatalf("%v drained at %d and %d: %v and %v, left %v; at once %v, left %v", l, by, now, out, more, late, all, once)
	}
}

// P9.3: drained at a time and then at a later one they are as drained at that at once.
func TestDrainedTwice(t *testing.T) {
	r := source()
	for by := range 12 {
		for now := by; now < 12; now++ {
			wantSameTwice(t, nil, by, now)
			wantSameTwice(t, dues(5, 1, 3, 9, 3, 2), by, now)
			wantSameTwice(t, many(r, maxDues, 10, 5), by, now)
		}
	}
	for range 300 {
		now := r.IntN(last + 1)
		wantSameTwice(t, many(r, r.IntN(maxDues+1), last+1, math.MaxInt), r.IntN(now+1), now)
	}
	wantSameTwice(t, dues(0, 1, last, 2, 1, 3, last-1, 4), 0, last)
	wantSameTwice(t, dues(0, 1, last, 2, 1, 3, last-1, 4), last-1, last)
}

// P1: no call panics and each ends, at the least and the greatest numbers and at long lists.
func TestNothingPanics(t *testing.T) {
	ends := []int{math.MinInt, -1, 0, 1, last, last + 1, math.MaxInt}
	for _, at := range ends {
		for _, other := range ends {
			for _, id := range ends {
				l := dues(at, id, other, -id, at, other)
				mayBe := 0 <= at && at <= last && 0 <= other && other <= last
				if due.Right(l) != mayBe {
					t.Errorf("Right(%v) = %v", l, !mayBe)
				}
				if mayBe {
					push(t, l, made(other, id))
					pop(t, l)
					drain(t, l, other)
					continue
				}
				wantPushWhy(t, l, made(other, id), api.ErrArg)
				wantPopWhy(t, l, api.ErrArg)
				wantDrainWhy(t, l, other, api.ErrArg)
			}
		}
	}
	if long := make([]api.Due, 1<<20); due.Right(long) {
		t.Error("Right of 2^20 = true")
	}
}

// tail lies behind the ends of lists: nobody may write there.
func tail() []api.Due {
	return dues(-7, -7, -8, -8, -9, -9)
}

// P9.3 and R4: no call changes the list that it was handed, nor what lies behind its end.
func TestListStays(t *testing.T) {
	for _, row := range slices.Concat(rows(), noRows()) {
		all := slices.Concat(row, tail())
		l := all[:len(row)]
		for _, d := range dues(0, 0, 7, 1, -1, 0) {
			due.Push(l, d)
		}
		due.Right(l)
		due.Pop(l)
		for _, now := range []int{-1, 0, 2, 7, last} {
			due.Drain(l, now)
		}
		if !slices.Equal(all, slices.Concat(row, tail())) {
			t.Fatalf("%v was handed, and became %v", row, all)
		}
	}
}

// spoil writes over a list as far as it reaches, also behind its end.
func spoil(l []api.Due) {
	l = l[:cap(l)]
	for i := range l {
		l[i] = made(-1, -1)
	}
}

// P9.3: what is answered shares nothing with what was handed, and its lists share nothing: whoever writes to one changes no other.
func TestAnswersAreNew(t *testing.T) {
	for _, row := range rows() {
		l := slices.Clone(row)
		more, _ := due.Push(l, made(7, 1))
		rest, _, _ := due.Pop(l)
		left, out, _ := due.Drain(l, 7)
		all := [][]api.Due{l, more, rest, left, out}
		var was [][]api.Due
		for _, each := range all {
			was = append(was, slices.Clone(each))
		}
		for i := range all {
			spoil(all[i])
			for j := i + 1; j < len(all); j++ {
				if !slices.Equal(all[j], was[j]) {
					t.Fatalf("of %v: list %d is changed by one who writes to list %d", row, j, i)
				}
			}
		}
	}
}

// P9.3 and R4: an answer of an earlier call is as it was behind later ones, also where two go on from the same one.
func TestAnswersStay(t *testing.T) {
	r := source()
	var all, was [][]api.Due
	keep := func(lists ...[]api.Due) {
		for _, l := range lists {
			all, was = append(all, l), append(was, slices.Clone(l))
		}
	}
	keep(nil)
	for range 2000 {
		l := all[r.IntN(len(all))]
		more, _ := due.Push(l, many(r, 1, 9, 5)[0])
		other, _ := due.Push(l, many(r, 1, 9, 5)[0])
		rest, _, _ := due.Pop(l)
		left, out, _ := due.Drain(l, r.IntN(9))
		keep(more, other, rest, left, out)
	}
	for i := range all {
		if !slices.Equal(all[i], was[i]) {
			t.Fatalf("answer %d was %v, and is %v", i, was[i], all[i])
		}
	}
}

// R1: a call answers the same, whatever was called ahead of it.
func TestNothingIsKept(t *testing.T) {
	l := dues(5, 1, 3, 9, 3, 2)
	more, _ := due.Push(l, made(4, 4))
	rest, _, _ := due.Pop(l)
	left, _, _ := due.Drain(l, 3)
	for range 3 {
		wantPopWhy(t, nil, api.ErrNone)
		if got, _ := due.Push(l, made(4, 4)); !slices.Equal(got, more) {
			t.Errorf("Push: %v, and then %v", more, got)
		}
		wantDrainWhy(t, l, -1, api.ErrArg)
		if got, first, _ := due.Pop(l); !slices.Equal(got, rest) || first != made(3, 2) {
			t.Errorf("Pop: %v, and then %v, %v", rest, got, first)
		}
		wantPushWhy(t, make([]api.Due, maxDues), made(1, 1), api.ErrFull)
		if got, out, _ := due.Drain(l, 3); !slices.Equal(got, left) || !slices.Equal(out, dues(3, 2, 3, 9)) {
			t.Errorf("Drain: %v, and then %v; %v", left, got, out)
		}
		drain(t, make([]api.Due, maxDues), last)
		if due.Right(dues(-1, 0)) || !due.Right(l) {
			t.Error("Right is not as it was")
		}
	}
}

// R1: the same at once from several sides: each call has a channel of its own.
func TestCallsAtOnce(t *testing.T) {
	r := source()
	lists := make([][]api.Due, 8)
	for i := range lists {
		lists[i] = many(r, maxDues, 10, 5)
	}
	ends := make(chan bool)
	for _, l := range lists {
		go func() {
			isRight := true
			for range 200 {
				_, out, why := due.Drain(l, last)
				isRight = isRight && why == api.OK && slices.Equal(out, ordered(l))
			}
			ends <- isRight
		}()
	}
	for range lists {
		if !<-ends {
			t.Error("Drain at once with others tells something else")
		}
	}
}
