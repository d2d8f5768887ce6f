package duty_test

import (
	"slices"
	"testing"

	"foghorn/api"
	"foghorn/duty"
)

// P16.3: Done: ErrState of what is done already, at each place, and whether it is due or not.
func TestDoneTwice(t *testing.T) {
	for _, c := range bases() {
		for _, due := range []int{0, 5, last} {
			for _, d := range duties(c, ax(), due) {
				if d.State != sDone {
					continue
				}
				for _, now := range []int{0, 4, 5, 6, last} {
					wantNoDone(t, c, d, now, api.ErrState)
				}
			}
		}
	}
}

// P16.3: Done: what nobody was told is gone, whether it is due or not.
func TestDoneUntold(t *testing.T) {
	for _, c := range bases() {
		for _, due := range []int{0, 5, last} {
			for _, d := range duties(c, ax(), due) {
				if d.State != sNew {
					continue
				}
				for _, now := range []int{0, 4, 5, 6, last} {
					wantDoneAway(t, c, d, now)
				}
			}
		}
	}
}

// P16.3: Done: what somebody was told is to be told done: turned to now, also where that is ahead of its Due.
func TestDone(t *testing.T) {
	l := labels("a", "", "b", "z", "c", "w")
	for _, c := range bases() {
		for _, due := range []int{0, 5, last} {
			for _, d := range duties(c, l, due) {
				if d.State != sTold {
					continue
				}
				for _, now := range []int{0, 4, 5, 6, last - 1, last} {
					wantDone(t, c, d, now, owed(l, d.Route, 0, 0, now, sDone))
				}
			}
		}
	}
	wantDone(t, full(), owed(l, 3, 2, 4, 500, sTold), 7, owed(l, 3, 0, 0, 7, sDone))
	wantDone(t, full(), owed(l, 0, 3, 0, 5, sTold), 7, owed(l, 0, 0, 0, 7, sDone))
}

// P16.3: Done of many configs, duties and times.
func TestDoneOfMany(t *testing.T) {
	r := source()
	for range 20000 {
		c := someConfig(r)
		d := someDuty(r, c)
		wantEnded(t, c, d, d.Due+[]int{0, 1, -1, r.IntN(100), -r.IntN(100), r.IntN(1 << 41)}[r.IntN(6)])
	}
}

// P16.3: Ahead, by Due: whatever the labels, and all else.
func TestAheadByDue(t *testing.T) {
	first, second := owed(labels("b", "y"), 0, 0, 0, 4, sTold), owed(ax(), 0, 0, 0, 5, sTold)
	wantAhead(t, first, second, true)
	wantAhead(t, second, first, false)
	for _, one := range edges() {
		for _, other := range edges() {
			for _, l := range [][]api.Label{nil, ax(), labels("b", "y")} {
				wantAhead(t, api.Duty{Due: one, Labels: l}, api.Duty{Due: other, Labels: ax()}, isAhead(api.Duty{Due: one, Labels: l}, api.Duty{Due: other, Labels: ax()}))
				if one != other {
					wantAhead(t, api.Duty{Due: one, Labels: l}, api.Duty{Due: other, Labels: ax()}, one < other)
				}
			}
		}
	}
}

// risingLabels come each ahead of those behind it: by Name ahead of Value, the first pair that differs ahead of those behind it, and those that are less by the first ones of the others. A name that another one begins with comes first, and bytes count as numbers from 0 to 255.
func risingLabels() [][]api.Label {
	return [][]api.Label{
		nil,
		labels("", ""),
		labels("", "", "", ""),
		labels("", "z"),
		labels("\x00", "z"),
		labels("A", "z"),
		labels("a", ""),
		labels("a", "", "z", "z"),
		labels("a", "\x00"),
		labels("a", "-"),
		labels("a", "0"),
		labels("a", "9", "b", "z", "c", "z"),
		labels("a", "x"),
		labels("a", "x", "a", "x"),
		labels("a", "x", "ab", "z"),
		labels("a", "x", "b", ""),
		labels("a", "x", "b", "", "c", "z"),
		labels("a", "x", "b", "", "d", ""),
		labels("a", "x", "b", "y"),
		labels("a", "x", "b", "y", "c", "x"),
		labels("a", "x", "b", "y", "c", "xx"),
		labels("a", "x", "b", "y", "c", "y"),
		labels("a", "x", "c", ""),
		labels("a", "x-"),
		labels("a", "xa", "b", ""),
		labels("a", "y"),
		labels("a", "\x7f"),
		labels("a", "\x80"),
		labels("a", "\xff"),
		labels("aa", ""),
		labels("ab", "", "b", "z"),
		labels("b", ""),
		labels("zone", "eu-1"),
		labels("zone", "eu-2", "zz", "a"),
		labels("\x7f", "a"),
		labels("\x80", ""),
		labels("\xff", ""),
		labels("\xff\x00", ""),
	}
}

// P16.3 and R5: Ahead, by labels at one Due: each with each.
func TestAheadByLabels(t *testing.T) {
	for i, one := range risingLabels() {
		for k, other := range risingLabels() {
			for _, due := range []int{0, 5, last, -1} {
				wantAhead(t, owed(one, 0, 0, 0, due, sTold), owed(other, 0, 0, 0, due, sTold), i < k)
			}
		}
	}
}

// P16.3: Ahead does not ask for the route, the place, the tries, nor the state.
func TestAheadByNothingElse(t *testing.T) {
	numbers := []int{0, 1, 2, -1, 9}
	for _, n := range numbers {
		for _, k := range numbers {
			for _, l := range [][]api.Label{nil, ax(), labels("a", "x", "b", "y")} {
				wantAhead(t, owed(l, n, 0, 0, 5, sNew), owed(l, k, 0, 0, 5, sNew), false)
				wantAhead(t, owed(l, 0, n, 0, 5, sNew), owed(l, 0, k, 0, 5, sNew), false)
				wantAhead(t, owed(l, 0, 0, n, 5, sNew), owed(l, 0, 0, k, 5, sNew), false)
				wantAhead(t, owed(l, 0, 0, 0, 5, n), owed(l, 0, 0, 0, 5, k), false)
				wantAhead(t, owed(l, n, n, n, 4, n), owed(l, k, k, k, 5, k), true)
				wantAhead(t, owed(l, n, n, n, 5, n), owed(labels("b", ""), k, k, k, 5, k), true)
				wantAhead(t, owed(labels("b", ""), n, n, n, 5, n), owed(l, k, k, k, 5, k), false)
			}
		}
	}
}

// P16.3 and R3: Ahead of duties of no labels, nil and empty: they come ahead of those that have some, and of none like them.
func TestAheadOfNoLabels(t *testing.T) {
	nothing := [][]api.Label{nil, {}, ax()[:0]}
	for _, one := range nothing {
		for _, other := range nothing {
			wantAhead(t, api.Duty{Labels: one}, api.Duty{Labels: other}, false)
		}
		for _, l := range [][]api.Label{ax(), labels("", ""), labels("a", "x", "b", "y")} {
			wantAhead(t, api.Duty{Labels: one}, api.Duty{Labels: l}, true)
			wantAhead(t, api.Duty{Labels: l}, api.Duty{Labels: one}, false)
		}
	}
}

// P16.4: Ahead is an order: none comes ahead of itself; of two unlike Dues or labels just one comes ahead; what comes ahead of what comes ahead comes ahead.
func TestAheadIsAnOrder(t *testing.T) {
	var all []api.Duty
	for _, l := range risingLabels() {
		all = append(all, owed(l, 0, 0, 0, 5, sNew), owed(l, 1, 2, 0, 6, sDone))
	}
	for _, a := range all {
		for _, b := range all {
			ahead, behind := duty.Ahead(a, b), duty.Ahead(b, a)
			isLike := a.Due == b.Due && slices.Equal(a.Labels, b.Labels)
			if isLike && (ahead || behind) || !isLike && ahead == behind {
				t.Errorf("of %+v and %+v %v, %v", a, b, ahead, behind)
			}
			for _, c := range all {
				if ahead && duty.Ahead(b, c) && !duty.Ahead(a, c) {
					t.Errorf("%+v, %+v, %+v do not come one ahead of the other", a, b, c)
				}
			}
		}
	}
}

// P16.4: whatever the order they stood in, duties come to stand in one.
func TestInOrder(t *testing.T) {
	r := source()
	byAhead := func(a, b api.Duty) int {
		switch {
		case duty.Ahead(a, b):
			return -1
		case duty.Ahead(b, a):
			return 1
		}
		return 0
	}
	var all []api.Duty
	for due := range 4 {
		for _, l := range risingLabels() {
			all = append(all, owed(l, 0, 0, 0, due, sNew))
		}
	}
	for range 20 {
		row := slices.Clone(all)
		r.Shuffle(len(row), func(i, k int) { row[i], row[k] = row[k], row[i] })
		slices.SortFunc(row, byAhead)
		if !slices.EqualFunc(row, all, isSame) {
			t.Fatalf("they came to stand so: %+v", row)
		}
	}
}
