package outbox_test

import (
	"fmt"
	"slices"
	"testing"

	"foghorn/api"
	"foghorn/config"
	"foghorn/outbox"
)

// wantRight holds Right against what is expected, and that against what the chapter says.
func wantRight(t *testing.T, c api.Config, o api.Outbox, want bool) {
	t.Helper()
	if mayBe(c, o) != want {
		t.Fatalf("the chapter does not say %v of %s, with %+v", want, show(o), c)
	}
	if got := outbox.Right(c, o); got != want {
		t.Fatalf("Right(%+v, %s) = %v, want %v", c, show(o), got, want)
	}
}

// P18.1, P18.2: no outbox may be with a config that may not, be it empty, and each call is ErrArg.
func TestNoConfigs(t *testing.T) {
	o := keeping(54, 1, 0, row(2), hushes(2))
	bare := keeping(54, 1, 0, nil, nil)
	for _, c := range noConfigs() {
		if config.Right(c) {
			t.Fatalf("%+v may be", c)
		}
		for _, one := range []api.Outbox{o, bare, {}} {
			wantRight(t, c, one, false)
			for _, a := range []act{set(row(1)[0]), set(api.Duty{}), drop(nth(0)), drop(nil), drop(labels("q", "")), hushed(until(5), 0), hushed(until(5), 9)} {
				wantErr(t, c, one, a, nil, api.ErrArg)
				wantErr(t, c, down(one), a, nil, api.ErrArg)
			}
			got, why := outbox.Boot(c, one.Store.Disk)
			wantNothing(t, "Boot", got, why, api.ErrArg)
		}
		got, why := outbox.Boot(c, blank(54))
		wantNothing(t, "Boot of a disk without a header", got, why, api.ErrArg)
		for _, n := range []int{-1, 0, 10, 53, 54, 55, 130, 132} {
			got, why := outbox.New(c, n)
			wantNothing(t, fmt.Sprint("New of ", n), got, why, api.ErrArg)
		}
	}
}

// P18.1: Right is false for each reason there is.
func TestNoOutboxes(t *testing.T) {
	for _, c := range bases() {
		for name, o := range noOutboxes(c) {
			if mayBe(c, o) || outbox.Right(c, o) || outbox.Right(c, down(o)) {
				t.Fatalf("%s: %s may be", name, show(o))
			}
		}
	}
}

// P18.1: a store may be of each size that has a log, but only from 54 sectors on, and whatever its disk tells.
func TestRightBySize(t *testing.T) {
	c := full()
	for n := range 140 {
		s := api.Store{Disk: blank(n), Gen: 1, Used: 1, Top: 1}
		want := n >= 54 && n <= 130 && n%2 == 0
		for _, o := range []api.Outbox{{Store: s}, {Store: s, Duties: row(16), Hushes: hushes(8)}} {
			wantRight(t, c, o, want)
			wantRight(t, c, down(o), want)
		}
	}
}

// P18.1: Gen, Used and Top at their ends.
func TestRightByStore(t *testing.T) {
	c := small()
	for _, n := range []int{52, 54, 130} {
		for _, gen := range []int{-1, 0, 1, 2, 249, 250, 251} {
			for _, top := range []int{gen - 1, gen, gen + 1, 249, 250, 251} {
				for _, used := range []int{-1, 0, 1, n/2 - 2, n/2 - 1, n / 2, n} {
					may := n != 52 && gen >= 1 && gen <= 250 && top >= gen && top <= 250 && used >= 0 && used <= n/2-1
					s := api.Store{Disk: blank(n), Gen: gen, Used: used, Top: top}
					wantRight(t, c, api.Outbox{Store: s, Duties: row(2), Hushes: hushes(2)}, may)
				}
			}
		}
	}
}

// P18.1: from no duties and hushes to too many of both.
func TestRightByNumber(t *testing.T) {
	c := full()
	s := logged(54, 1)
	for duties := range 20 {
		for size := range 12 {
			wantRight(t, c, api.Outbox{Store: s, Duties: row(duties), Hushes: hushes(size)}, duties <= 16 && size <= 8)
		}
	}
}

// P18.1, R3: nil rows are empty ones.
func TestRightOfNilAndEmpty(t *testing.T) {
	for _, c := range bases() {
		for _, duties := range [][]api.Duty{nil, {}, row(2)[:0]} {
			for _, some := range [][]api.Hush{nil, {}, hushes(2)[:0]} {
				wantRight(t, c, api.Outbox{Store: logged(54, 1), Duties: duties, Hushes: some}, true)
				wantRight(t, c, api.Outbox{Duties: duties, Hushes: some}, false)
			}
		}
	}
}

// P18.1: a duty that may not be is seen at each place of each row, and so is a hush.
func TestRightByPlace(t *testing.T) {
	c := small()
	for _, n := range []int{1, 2, 3, 15, 16} {
		for i := range n {
			for _, no := range []api.Duty{owed(nth(i), 1, 0, 0, 5, sNew), owed(nth(i), 0, 1, 0, 5, sNew), owed(nth(i), 0, 0, 2, 5, sNew), owed(nth(i), 0, 0, 0, last+1, sNew), owed(nth(i), 0, 0, 0, 5, 4)} {
				l := row(n)
				l[i] = no
				wantRight(t, c, api.Outbox{Store: logged(54, 1), Duties: l}, false)
			}
		}
	}
	for n := 1; n <= 8; n++ {
		for i := range n {
			for _, no := range noHush() {
				l := hushes(n)
				l[i] = no
				wantRight(t, c, api.Outbox{Store: logged(54, 1), Hushes: l}, false)
			}
		}
	}
}

// fewLabels may be, and rise.
func fewLabels() [][]api.Label {
	return [][]api.Label{
		labels("a", ""), labels("a", "", "b", ""), labels("a", "", "b", "", "c", ""), labels("a", "", "b", "x"), labels("a", "", "c", ""),
		labels("a", "-"), labels("a", "0"), labels("a", "9"), labels("a", "a"), labels("a", "aa"), labels("a", "x"), labels("a", "x", "ab", ""), labels("a", "x", "b", ""), labels("a", "x", "b", "", "zone", "eu"), labels("a", "x", "b", "", "zone", "us"), labels("a", "xx"), labels("a", "z", "b", "z"),
		labels("aa", ""), labels("ab", "x"), labels("b", ""), labels("zone", "eu-1"), labels("zone", "eu-1", "zonf", ""), labels("zonea", ""),
	}
}

// P18.1: two duties side by side rise by their Labels, and by nothing else; of all pairs of some Labels.
func TestRightByLabels(t *testing.T) {
	for _, c := range bases() {
		for i, one := range fewLabels() {
			for j, other := range fewLabels() {
				for _, dues := range [][2]int{{5, 5}, {5, 6}, {6, 5}, {0, last}, {last, 0}} {
					for _, states := range [][2]int{{sNew, sNew}, {sNew, sDone}, {sDone, sNew}} {
						l := []api.Duty{owed(one, 0, 0, 0, dues[0], states[0]), owed(other, 0, 0, 0, dues[1], states[1])}
						wantRight(t, c, api.Outbox{Store: logged(54, 1), Duties: l}, i < j)
					}
				}
			}
		}
	}
}

// P18.1: of a row of some each pair side by side is asked for, not only the first or the last one.
func TestRightByRows(t *testing.T) {
	c := small()
	var l []api.Duty
	for i, one := range fewLabels() {
		l = append(l, fresh(one, 100-i))
	}
	for from := range len(l) - 16 {
		some := l[from : from+16]
		wantRight(t, c, api.Outbox{Store: logged(54, 1), Duties: some}, true)
		for i := range some {
			for j := range i {
				wrong := slices.Clone(some)
				wrong[i], wrong[j] = wrong[j], wrong[i]
				wantRight(t, c, api.Outbox{Store: logged(54, 1), Duties: wrong}, false)
			}
		}
	}
}

// P18.1: a row of duties at all places of all routes, with the most tries, may be with its config, and not with another one.
func TestRightByConfig(t *testing.T) {
	c := full()
	var l []api.Duty
	for number, one := range c.Routes {
		for at, who := range one.Chain {
			l = append(l, owed(nth(len(l)), number, at, c.Receivers[who].Tries-1, last, sTold))
		}
	}
	o := api.Outbox{Store: logged(54, 1), Duties: l}
	wantRight(t, c, o, true)
	wantRight(t, small(), o, false)
	for i := range l {
		wantRight(t, c, change(o, func(o *api.Outbox) { o.Duties[i].Tries++ }), false)
	}
}
