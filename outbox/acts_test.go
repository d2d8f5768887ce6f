package outbox_test

import (
	"slices"
	"testing"

	"foghorn/api"
)

// wantKept holds what a call came to against duties and hushes written out, and lets Boot tell them.
func wantKept(t *testing.T, c api.Config, o api.Outbox, a act, duties []api.Duty, hushes []api.Hush) api.Outbox {
	t.Helper()
	got := wantOK(t, c, o, a)
	if want := (api.Outbox{Duties: duties, Hushes: hushes}); !hasSame(got, want) {
		t.Fatalf("%s to %s: %s, want %s", a.name, show(o), show(got), show(want))
	}
	wantBoot(t, c, got.Store.Disk, got)
	wantRight(t, c, got, true)
	return got
}

// without is the row without the duty at that place.
func without(l []api.Duty, i int) []api.Duty {
	return slices.Delete(slices.Clone(l), i, i+1)
}

// P18.2: a duty of new Labels comes into its place, first, last, and each in between; a seventeenth does not.
func TestSetOfNewLabels(t *testing.T) {
	for _, c := range bases() {
		for n := range 18 {
			for i := range n {
				for _, used := range []int{0, 25, 26} {
					o := keeping(54, 3, used, without(row(n), i), hushes(2))
					if n == 17 {
						wantErr(t, c, o, set(row(n)[i]), nil, api.ErrFull)
						continue
					}
					wantKept(t, c, o, set(row(n)[i]), row(n), hushes(2))
				}
			}
		}
	}
}

// P18.2: a duty of Labels that are there comes instead of that one, be there sixteen.
func TestSetOfLabelsThatAreThere(t *testing.T) {
	for _, c := range bases() {
		for n := range 17 {
			for i := range n {
				for _, used := range []int{0, 25, 26} {
					o := keeping(54, 3, used, row(n), hushes(2))
					for _, d := range []api.Duty{row(n)[i], owed(nth(i), 0, 0, 1, 0, sDone), owed(nth(i), 0, 0, 0, last, sNew)} {
						want := row(n)
						want[i] = d
						wantKept(t, c, o, set(d), want, hushes(2))
					}
				}
			}
		}
	}
}

// P18.2: duties come into their places by their Labels alone, in all orders of some and one by one.
func TestSetByLabels(t *testing.T) {
	c := small()
	r := source()
	all := fewLabels()[6:22]
	for range 20 {
		o := empty(t, c, 54)
		for _, i := range r.Perm(16) {
			o = wantOK(t, c, o, set(fresh(all[i], r.IntN(100))))
		}
		for i, d := range o.Duties {
			if len(o.Duties) != 16 || !slices.Equal(d.Labels, all[i]) {
				t.Fatalf("duties %+v", o.Duties)
			}
		}
		wantErr(t, c, o, set(fresh(fewLabels()[0], 0)), nil, api.ErrFull)
	}
}

// P18.2: a duty is gone, and the others stay; of Labels of none there is ErrNone, also of such that are near.
func TestDrop(t *testing.T) {
	for _, c := range bases() {
		for n := range 17 {
			for i := range n {
				for _, used := range []int{0, 25, 26} {
					o := keeping(54, 3, used, row(n), hushes(2))
					got := wantKept(t, c, o, drop(nth(i)), without(row(n), i), hushes(2))
					wantErr(t, c, got, drop(nth(i)), nil, api.ErrNone)
				}
			}
			for _, l := range [][]api.Label{nth(n), nth(99), labels("a", ""), labels("a", "0"), labels("a", "00", "b", ""), labels("a", "00", "b", "xx"), labels("a", "00", "b", "x", "c", ""), labels("b", "x"), labels("aa", "00"), labels("zone", "eu")} {
				for _, used := range []int{0, 26} {
					wantErr(t, c, keeping(54, 3, used, row(n), hushes(2)), drop(l), nil, api.ErrNone)
				}
			}
		}
	}
}

// P18.2: a hush that is not over comes behind the others, if none of them is over: the record is appended.
func TestQuiet(t *testing.T) {
	for _, c := range bases() {
		for n := range 9 {
			for _, now := range []int{0, 5, 999, 1000} {
				o := keeping(54, 3, 0, row(3), hushes(n))
				for _, h := range []api.Hush{until(1001), quiet(now+1, last, asks(has, "q", "")), quiet(last-1, last, asks(not, "a", "")), hushes(3)[0]} {
					if n == 8 {
						wantErr(t, c, o, hushed(h, now), nil, api.ErrFull)
						continue
					}
					got := wantKept(t, c, o, hushed(h, now), row(3), append(hushes(n), h))
					if got.Store.Gen != 3 || got.Store.Used != 3+n+1 {
						t.Fatalf("not appended: %s", show(got))
					}
				}
				wantErr(t, c, o, hushed(until(max(now, 1)), max(now, 1)), nil, api.ErrRange)
				wantErr(t, c, o, hushed(until(max(now, 1)), last), nil, api.ErrRange)
			}
		}
	}
}

// P18.2: hushes that are over are left out, whichever of eight they are: the store is turned to what is left, though its log has room; Boot tells just that.
func TestQuietBehindOthers(t *testing.T) {
	c := small()
	for over := range 256 {
		var all, left []api.Hush
		for i := range 8 {
			h := quiet(i, 101, asks(is, "a", "x"))
			if over>>i&1 == 1 {
				h.To = 100 - i/4*50
			} else {
				left = append(left, h)
			}
			all = append(all, h)
		}
		for _, used := range []int{0, 12, 26} {
			o := keeping(54, 3, used, row(2), all)
			h := quiet(100, 101, asks(begins, "b", "y"))
			if over == 0 {
				wantErr(t, c, o, hushed(h, 100), nil, api.ErrFull)
				continue
			}
			got := wantKept(t, c, o, hushed(h, 100), row(2), append(slices.Clone(left), h))
			if got.Store.Gen != 4 || got.Store.Used != 2+len(left)+1 {
				t.Fatalf("not turned: %s", show(got))
			}
			wantErr(t, c, o, hushed(until(100), 100), nil, api.ErrRange)
			wantErr(t, c, o, hushed(until(100), 101), nil, api.ErrRange)
		}
	}
}

// P18.2: a hush is over at its To, and not one tick ahead of it, at both ends of time.
func TestQuietAtTheEnds(t *testing.T) {
	c := full()
	for _, to := range []int{1, 2, 1000, last - 1, last} {
		o := keeping(54, 3, 0, row(2), []api.Hush{until(to)})
		if to > 1 {
			wantErr(t, c, o, hushed(until(to-1), to-1), nil, api.ErrRange)
		}
		got := wantKept(t, c, o, hushed(until(to), to-1), row(2), []api.Hush{until(to), until(to)})
		if got.Store.Gen != 3 || got.Store.Used != 4 {
			t.Fatalf("not appended: %s", show(got))
		}
		wantErr(t, c, o, hushed(until(to), to), nil, api.ErrRange)
		if to < last {
			got = wantKept(t, c, o, hushed(until(last), to), row(2), []api.Hush{until(last)})
			if got.Store.Gen != 4 || got.Store.Used != 3 {
				t.Fatalf("not turned: %s", show(got))
			}
		}
	}
}
