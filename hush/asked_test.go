package hush_test

import (
	"math/rand/v2"
	"slices"
	"testing"

	"foghorn/api"
	"foghorn/hush"
)

// P14.2: Active, Free: the chapter's example.
func TestExample(t *testing.T) {
	if at, why := hush.Free(hushes(2, 5, 5, 9), labels("a", "x"), 3); at != 9 || why != api.OK {
		t.Errorf("Free = %d, %d", at, why)
	}
	for now := range 12 {
		wantActive(t, hushes(2, 5, 5, 9), labels("a", "x"), now, 2 <= now && now < 9)
	}
}

// P14.2: Active: one tick ahead of From, at it, one ahead of To, at it.
func TestActiveAroundOne(t *testing.T) {
	for _, from := range fewTimes() {
		for _, to := range fewTimes() {
			if from >= to {
				continue
			}
			for _, end := range []int{from, to} {
				for now := max(end-2, 0); now <= min(end+2, last); now++ {
					want := from <= now && now < to
					wantActive(t, hushes(from, to), labels("a", "x"), now, want)
					wantActive(t, all(ofB(from, to), ofA(from, to)), labels("a", "x"), now, want)
					wantActive(t, hushes(from, to), labels("a", "y"), now, false)
				}
			}
		}
	}
}

// P14.2 and R3: Active, Free: where there are no hushes.
func TestAskedOfNone(t *testing.T) {
	for _, l := range fewLabels() {
		for _, now := range fewTimes() {
			for _, none := range [][]api.Hush{nil, {}, hushes(0, last)[:0]} {
				wantActive(t, none, l, now, false)
				wantFree(t, none, l, now, now)
			}
		}
	}
}

// P14.2: Active, Free: what each kind of matcher hushes, written out.
func TestAskedByMatcher(t *testing.T) {
	web := labels("a", "web", "z", "eu-1")
	for _, c := range []struct {
		m    api.Matcher
		want bool
	}{
		{asks(is, "a", "web"), true},
		{asks(is, "z", "eu-1"), true},
		{asks(is, "a", "eu-1"), false},
		{asks(is, "a", "we"), false},
		{asks(is, "a", "webs"), false},
		{asks(is, "a", ""), false},
		{asks(is, "b", "web"), false},
		{asks(is, "b", ""), false},
		{asks(not, "a", "web"), false},
		{asks(not, "a", "we"), true},
		{asks(not, "a", ""), true},
		{asks(not, "z", "web"), true},
		{asks(not, "z", "eu-1"), false},
		{asks(not, "b", "web"), true},
		{asks(not, "b", ""), true},
		{asks(begins, "a", ""), true},
		{asks(begins, "a", "we"), true},
		{asks(begins, "a", "web"), true},
		{asks(begins, "a", "webs"), false},
		{asks(begins, "a", "eb"), false},
		{asks(begins, "z", "eu-"), true},
		{asks(begins, "b", ""), false},
		{asks(has, "a", ""), true},
		{asks(has, "z", ""), true},
		{asks(has, "b", ""), false},
		{asks(has, "zz", ""), false},
	} {
		wantActive(t, all(quiet(2, 5, c.m)), web, 3, c.want)
		wantActive(t, all(quiet(2, 5, c.m)), web, 1, false)
		wantActive(t, all(quiet(2, 5, c.m)), web, 5, false)
		want := 3
		if c.want {
			want = 5
		}
		wantFree(t, all(quiet(2, 5, c.m)), web, 3, want)
	}
}

// P14.2: Active, Free: of several matchers one does not match, at each place.
func TestAskedByMatchers(t *testing.T) {
	l := labels("a", "web", "z", "eu-1")
	match := []api.Matcher{asks(is, "a", "web"), asks(not, "z", "us"), asks(begins, "z", "eu"), asks(has, "a", "")}
	for n := 1; n <= 4; n++ {
		wantActive(t, all(quiet(2, 5, match[:n]...)), l, 3, true)
		wantFree(t, all(quiet(2, 5, match[:n]...)), l, 3, 5)
		for place := range n {
			for _, no := range []api.Matcher{asks(is, "a", "we"), asks(not, "a", "web"), asks(begins, "z", "us"), asks(has, "b", "")} {
				ms := slices.Clone(match[:n])
				ms[place] = no
				wantActive(t, all(quiet(2, 5, ms...)), l, 3, false)
				wantFree(t, all(quiet(2, 5, ms...)), l, 3, 3)
			}
		}
	}
}

// P14.2: Active, Free: matchers of two hushes are not one hush's: each has to match all by itself.
func TestAskedByEachAlone(t *testing.T) {
	x, y := asks(is, "a", "x"), asks(is, "b", "y")
	no := asks(is, "c", "z")
	wantActive(t, all(quiet(2, 5, x, no), quiet(2, 5, y, no)), labels("a", "x", "b", "y"), 3, false)
	wantActive(t, all(quiet(2, 5, x, no), quiet(2, 5, y)), labels("a", "x", "b", "y"), 3, true)
	wantActive(t, all(quiet(2, 3, x, y), quiet(3, 5, x, no)), labels("a", "x", "b", "y"), 3, false)
	wantFree(t, all(quiet(2, 5, x, no), quiet(2, 5, y, no)), labels("a", "x", "b", "y"), 3, 3)
	wantFree(t, all(quiet(2, 3, x, y), quiet(3, 5, x, no), quiet(2, 4, y)), labels("a", "x", "b", "y"), 2, 4)
}

// P14.2: Active, Free: of several the first, the last, one in between or none hushes; the others ask for other labels, are over, or have not begun.
func TestAskedOfSeveral(t *testing.T) {
	for _, other := range all(ofB(0, last), ofA(0, 2), ofA(0, 3), ofA(9, last), ofA(4, last), quiet(2, 5, asks(is, "a", "x"), asks(has, "b", ""))) {
		for n := 1; n <= maxHushes; n++ {
			row := slices.Repeat(all(other), n)
			wantActive(t, row, labels("a", "x"), 3, false)
			wantFree(t, row, labels("a", "x"), 3, 3)
			for place := range n {
				l := slices.Clone(row)
				l[place] = ofA(3, 4)
				wantActive(t, l, labels("a", "x"), 3, true)
				want := 4
				if other.From == 4 && n > 1 {
					want = last
				}
				wantFree(t, l, labels("a", "x"), 3, want)
			}
		}
	}
}

// wantFreeInAnyOrder hands the hushes in each order.
func wantFreeInAnyOrder(t *testing.T, hs []api.Hush, now, want int) {
	t.Helper()
	for _, row := range orders(hs) {
		wantFree(t, row, labels("a", "x"), now, want)
	}
}

// P14.2: Free, written out: now, the To of one, and hushes that overlap, that meet at one tick, that leave one between them, that lie one within the other; in each order.
func TestFree(t *testing.T) {
	for _, c := range []struct {
		l         []api.Hush
		now, want int
	}{
		{hushes(2, 5), 0, 0},
		{hushes(2, 5), 1, 1},
		{hushes(2, 5), 2, 5},
		{hushes(2, 5), 4, 5},
		{hushes(2, 5), 5, 5},
		{hushes(2, 5), 6, 6},
		{hushes(0, 1), 0, 1},
		{hushes(2, 5, 4, 9), 3, 9},
		{hushes(2, 5, 4, 9), 1, 1},
		{hushes(2, 5, 4, 9), 9, 9},
		{hushes(2, 5, 5, 9), 2, 9},
		{hushes(2, 5, 5, 9), 5, 9},
		{hushes(2, 5, 6, 9), 3, 5},
		{hushes(2, 5, 6, 9), 5, 5},
		{hushes(2, 5, 6, 9), 6, 9},
		{hushes(2, 9, 4, 5), 3, 9},
		{hushes(2, 9, 4, 5), 4, 9},
		{hushes(2, 9, 2, 5), 2, 9},
		{hushes(2, 9, 5, 9), 2, 9},
		{hushes(2, 9, 2, 9), 2, 9},
		{hushes(2, 9, 4, 5, 9, 10), 3, 10},
		{hushes(2, 9, 4, 5, 10, 11), 3, 9},
		{hushes(0, 2, 2, 4, 4, 6, 6, 8), 0, 8},
		{hushes(0, 2, 2, 4, 5, 6, 6, 8), 0, 4},
		{hushes(0, 2, 2, 4, 5, 6, 6, 8), 5, 8},
		{hushes(0, 3, 1, 5, 2, 4, 5, 7, 8, 9), 1, 7},
		{all(ofA(2, 5), ofB(5, 9)), 3, 5},
		{all(ofB(2, 5), ofA(5, 9)), 3, 3},
		{all(ofA(2, 5), ofB(4, 6), ofA(6, 9)), 3, 5},
		{all(ofA(2, 5), ofB(5, 9), ofA(5, 6)), 3, 6},
	} {
		wantFreeInAnyOrder(t, c.l, c.now, c.want)
	}
}

// P14.2: Free of the chapter's row, at each time.
func TestFreeAtEachTime(t *testing.T) {
	for now, want := range []int{0, 1, 9, 9, 9, 9, 9, 9, 9, 9, 10, 11} {
		wantFreeInAnyOrder(t, hushes(2, 5, 5, 9), now, want)
	}
}

// P14.2: Free is 2^40, if one that hushes ends there, or a row of them does, or now is.
func TestFreeAtTheLastTime(t *testing.T) {
	for _, now := range []int{0, 1, 7, last / 2, last - 2, last - 1, last} {
		wantFreeInAnyOrder(t, hushes(0, last), now, last)
		wantFreeInAnyOrder(t, hushes(0, 5, 5, last-1, last-1, last), now, last)
		wantFreeInAnyOrder(t, hushes(0, 5, 4, last-1, last-2, last), now, last)
		wantFreeInAnyOrder(t, hushes(0, last-1, last/2, last), now, last)
	}
	wantFreeInAnyOrder(t, hushes(0, last-1), 3, last-1)
	wantFreeInAnyOrder(t, hushes(0, last-2, last-1, last), 3, last-2)
	wantFreeInAnyOrder(t, hushes(0, last-2, last-1, last), last-2, last-2)
	wantFreeInAnyOrder(t, hushes(0, last-2, last-1, last), last-1, last)
	wantFree(t, nil, labels("a", "x"), last, last)
	wantFree(t, hushes(2, 5), labels("a", "x"), last, last)
	wantActive(t, hushes(0, last), labels("a", "x"), last, false)
	wantActive(t, slices.Repeat(hushes(last-1, last), 8), labels("a", "x"), last, false)
	wantActive(t, slices.Repeat(hushes(last-1, last), 8), labels("a", "x"), last-1, true)
}

// P14.2: Free of eight that follow one the other, in all of many orders.
func TestFreeOfEight(t *testing.T) {
	r := source()
	row := hushes(1, 2, 2, 3, 3, 4, 4, 5, 5, 6, 6, 7, 7, 8, 8, 9)
	slices.Reverse(row)
	for range 2000 {
		for now := range 11 {
			want := now
			if 1 <= now && now < 9 {
				want = 9
			}
			wantFree(t, row, labels("a", "x"), now, want)
		}
		r.Shuffle(len(row), func(i, j int) { row[i], row[j] = row[j], row[i] })
	}
}

// freeTick goes through the ticks one by one.
func freeTick(hs []api.Hush, l []api.Label, now int) int {
	for areHushed(hs, l, now) {
		now++
	}
	return now
}

// wantBetween is P14.3 of small times: from now till Free labels are hushed, and at it they are not.
func wantBetween(t *testing.T, hs []api.Hush, l []api.Label, now int) {
	t.Helper()
	free, why := hush.Free(hs, l, now)
	if why != api.OK || free != freeTick(hs, l, now) {
		t.Fatalf("Free(%+v, %v, %d) = %d, %d", hs, l, now, free, why)
	}
	for at := now; at <= free; at++ {
		if yes, why := hush.Active(hs, l, at); yes != (at < free) || why != api.OK {
			t.Fatalf("%v is free of %+v at %d, and Active at %d is %v, %d", l, hs, free, at, yes, why)
		}
	}
}

// small are all hushes of a=x and of b=y from 0 to 4.
func small() []api.Hush {
	var l []api.Hush
	for to := range 5 {
		for from := range to {
			l = append(l, ofA(from, to), ofB(from, to))
		}
	}
	return l
}

// P14.2 and P14.3: Active and Free of all rows of up to three small hushes, tick by tick.
func TestAllSmallRows(t *testing.T) {
	both := labels("a", "x", "b", "y")
	few := small()
	for _, one := range few {
		for _, other := range few {
			for _, third := range few {
				for now := range 6 {
					for _, hs := range [][]api.Hush{all(one), all(one, other), all(one, other, third)} {
						wantBetween(t, hs, labels("a", "x"), now)
						wantBetween(t, hs, both, now)
					}
				}
			}
		}
	}
}

// someHushes are up to 8, of up to 4 matchers of few names and values.
func someHushes(r *rand.Rand, times int) []api.Hush {
	var l []api.Hush
	for range r.IntN(maxHushes + 1) {
		from := r.IntN(times)
		h := api.Hush{From: from, To: from + 1 + r.IntN(times/2)}
		for range 1 + r.IntN(4) {
			h.Asked = append(h.Asked, someMatcher(r))
		}
		l = append(l, h)
	}
	return l
}

func someMatcher(r *rand.Rand) api.Matcher {
	m := asks(r.IntN(4), []string{"a", "b", "z"}[r.IntN(3)], []string{"", "x", "xy", "y"}[r.IntN(4)])
	if m.Kind == has {
		m.Value = ""
	}
	return m
}

func someLabels() [][]api.Label {
	return [][]api.Label{labels("a", "x"), labels("a", "xy", "b", "y"), labels("a", "", "b", "x", "z", "xy"), labels("z", "y"), labels("c", "x")}
}

// P14.2 and P14.3: Active and Free of many rows, tick by tick, and at great times by the ends.
func TestManyRows(t *testing.T) {
	r := source()
	hushed := 0
	for range 3000 {
		hs, far := someHushes(r, 20), someHushes(r, last/2)
		for _, l := range someLabels() {
			now := r.IntN(30)
			wantBetween(t, hs, l, now)
			wantAsked(t, hs, l, now)
			if areHushed(hs, l, now) {
				hushed++
			}
			wantAsked(t, far, l, r.IntN(last+1))
			for _, h := range far {
				for _, at := range []int{h.From - 1, h.From, h.To - 1, h.To} {
					if isTime(at) {
						wantAsked(t, far, l, at)
					}
				}
			}
		}
	}
	if hushed < 1000 {
		t.Errorf("only %d times labels were hushed", hushed)
	}
}

// P14.3: what is over never matters any more: without it Active and Free are as they were, from then on.
func TestWhatIsOver(t *testing.T) {
	r := source()
	for range 2000 {
		hs := someHushes(r, 20)
		now := r.IntN(30)
		left := lasting(hs, now)
		for _, l := range someLabels() {
			for at := now; at < 35; at++ {
				wantActive(t, left, l, at, areHushed(hs, l, at))
				wantActive(t, hs, l, at, areHushed(left, l, at))
				wantFree(t, left, l, at, freeAt(hs, l, at))
				wantFree(t, hs, l, at, freeAt(left, l, at))
			}
		}
	}
}

// P14.3: one more hushes as much and more: what Add answers hushes what was hushed from now on, and what the new one does, and nothing else.
func TestOneMore(t *testing.T) {
	r := source()
	for range 2000 {
		hs, more := someHushes(r, 20), someHushes(r, 20)
		if len(more) == 0 {
			continue
		}
		now := r.IntN(more[0].To)
		row, why := hush.Add(hs, more[0], now)
		if why != api.OK {
			wantNoAdd(t, hs, more[0], now, api.ErrFull)
			continue
		}
		for _, l := range someLabels() {
			for at := now; at < 35; at++ {
				wantActive(t, row, l, at, areHushed(hs, l, at) || isHushing(more[0], l, at))
				ahead, _ := hush.Free(hs, l, at)
				if behind, _ := hush.Free(row, l, at); behind < ahead {
					t.Errorf("with %+v behind %+v, %v is free at %d, not at %d", more[0], hs, l, behind, ahead)
				}
			}
		}
	}
}

// room is a copy of hushes that have room behind their last one, and of each the matchers have, too.
func room(l []api.Hush) []api.Hush {
	row := make([]api.Hush, 0, len(l)+3)
	for _, h := range l {
		h.Asked = append(make([]api.Matcher, 0, len(h.Asked)+3), h.Asked...)
		row = append(row, h)
	}
	return row
}

// whole is all that a list has room for.
func whole(l []api.Hush) []api.Hush {
	row := slices.Clone(l[:cap(l)])
	for i := range row {
		row[i].Asked = slices.Clone(row[i].Asked[:cap(row[i].Asked)])
	}
	return row
}

// R4: no call changes the rows that it was handed, nor what lies behind their ends.
func TestListsStay(t *testing.T) {
	for _, row := range slices.Concat(rows(), noRows()[:40]) {
		if len(row) > 100 {
			continue
		}
		l, h := room(row), room(hushes(4, 6))
		ls := append(make([]api.Label, 0, 5), labels("a", "x", "b", "y")...)
		was, wasH := whole(l), whole(h)
		for _, now := range []int{-1, 0, 1, 2, 4, 5, 6, 8, 9, last - 1, last} {
			hush.Right(l)
			hush.Add(l, h[0], now)
			hush.Active(l, ls, now)
			hush.Free(l, ls, now)
		}
		if !areSame(whole(l), was) || !areSame(whole(h), wasH) || len(h) != 1 {
			t.Fatalf("%+v was handed, and became %+v", was, whole(l))
		}
		if !slices.Equal(ls[:5], append(labels("a", "x", "b", "y"), make([]api.Label, 3)...)) {
			t.Fatalf("labels became %v", ls[:5])
		}
	}
}

// P14.2 and R4: Free looks at hushes as they begin, and Add at those that last: the row that was handed has its order still.
func TestOrderStays(t *testing.T) {
	five := hushes(5, 9, 0, 3, 2, 5, 1, 4, 4, 5)
	for _, row := range orders(five) {
		was := copyOf(row)
		hush.Free(row, labels("a", "x"), 1)
		hush.Active(row, labels("a", "x"), 4)
		hush.Add(row, ofA(2, 7), 4)
		if !areSame(row, was) {
			t.Fatalf("%+v was handed, and became %+v", was, row)
		}
	}
}

// spoil writes over hushes and their matchers as far as these reach, also behind their ends.
func spoil(l []api.Hush) {
	l = l[:cap(l)]
	for i := range l {
		asked := l[i].Asked[:cap(l[i].Asked)]
		for j := range asked {
			asked[j] = asks(-1, "spoilt", "")
		}
		l[i].From, l[i].To = -1, -1
	}
}

// R4: what Add answers shares nothing with what was handed, neither row nor matchers: whoever writes to one does not change the other.
func TestAnswersAreNew(t *testing.T) {
	for _, row := range rows() {
		for _, now := range []int{0, 3, 5} {
			l, h := room(row), room(hushes(4, 6))
			was := whole(l)
			got, why := hush.Add(l, h[0], now)
			if why != api.OK {
				continue
			}
			want := copyOf(got)
			spoil(got)
			if !areSame(whole(l), was) || !areSame(h, hushes(4, 6)) {
				t.Fatalf("%+v is changed by one who writes to what Add answered", was)
			}
			got, _ = hush.Add(l, h[0], now)
			spoil(l)
			spoil(h)
			if !areSame(got, want) {
				t.Fatalf("Add answered %+v, which is %+v when what was handed is written over", want, got)
			}
		}
	}
}

// R4: no two of the hushes that Add answers share their matchers, also where those that were handed do.
func TestAnswersShareNothing(t *testing.T) {
	h := ofA(2, 5)
	got, why := hush.Add(all(h, h), h, 3)
	if why != api.OK || len(got) != 3 {
		t.Fatalf("Add = %+v, %d", got, why)
	}
	for i := range got {
		got[i].Asked[0].Value = letters[i : i+1]
	}
	for i := range got {
		if got[i].Asked[0].Value != letters[i:i+1] || h.Asked[0].Value != "x" {
			t.Errorf("hush %d is %+v, the one handed %+v", i, got[i], h)
		}
	}
}

// R4: an answer is as it was behind later calls, also where two go on from the same one.
func TestAnswersStay(t *testing.T) {
	r := source()
	rows, was := [][]api.Hush{nil}, [][]api.Hush{nil}
	for range 3000 {
		l := rows[r.IntN(len(rows))]
		now := r.IntN(20)
		for range 2 {
			row, _ := hush.Add(l, ofA(r.IntN(10), now+1+r.IntN(20)), now)
			rows, was = append(rows, row), append(was, copyOf(row))
		}
		hush.Active(l, labels("a", "x"), now)
		hush.Free(l, labels("a", "x"), now)
	}
	for i := range rows {
		if !areSame(rows[i], was[i]) {
			t.Fatalf("answer %d was %+v, and is %+v", i, was[i], rows[i])
		}
	}
}

// R1: a call answers the same, whatever was called ahead of it.
func TestNothingIsKept(t *testing.T) {
	l := all(ofA(2, 5), ofB(0, 3), ofA(5, 9))
	for range 3 {
		wantAdd(t, l, ofB(4, 6), 3, ofA(2, 5), ofA(5, 9), ofB(4, 6))
		wantActive(t, l, labels("a", "x"), 3, true)
		wantNoAdd(t, l, ofB(6, 4), 3, api.ErrArg)
		wantFree(t, l, labels("a", "x"), 3, 9)
		wantNotAsked(t, l, labels("A", "x"), 3)
		wantAdd(t, l, ofB(4, 6), 2, append(copyOf(l), ofB(4, 6))...)
		wantActive(t, l, labels("b", "y"), 3, false)
		wantNoAdd(t, l, ofB(2, 3), 3, api.ErrRange)
		wantFree(t, l, labels("b", "y"), 2, 3)
		wantRight(t, append(copyOf(l), ofA(9, 9)), false)
		wantNoAdd(t, slices.Repeat(l[:1], 8), ofB(4, 6), 3, api.ErrFull)
		wantFree(t, nil, labels("b", "y"), 2, 2)
		wantRight(t, l, true)
		wantActive(t, nil, labels("a", "x"), 3, false)
	}
}
