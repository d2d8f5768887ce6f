package route_test

import (
	"math"
	"slices"
	"strings"
	"testing"

	"foghorn/api"
	"foghorn/route"
)

// P15.2: Receiver, written out.
func TestReceiver(t *testing.T) {
	c := some(path(chain(3, 1, 0, 2)), path(chain(2)), path(chain(0, 3)), path(chain(1, 2, 3)))
	for number, want := range [][]int{{3, 1, 0, 2}, {2}, {0, 3}, {1, 2, 3}} {
		for place, told := range want {
			wantReceiver(t, c, number, place, told)
		}
		wantNoPlace(t, c, number, len(want), api.ErrRange)
		wantNoPlace(t, c, number, len(want)+1, api.ErrRange)
		wantNoPlace(t, c, number, -1, api.ErrRange)
	}
}

// P15.2: After, written out: the next place, whichever receivers stand there, and 0 behind the last one.
func TestAfter(t *testing.T) {
	c := some(path(chain(3, 1, 0, 2)), path(chain(2)), path(chain(0, 3)), path(chain(1, 2, 3)))
	for number, want := range [][]int{{1, 2, 3, 0}, {0}, {1, 0}, {1, 2, 0}} {
		for place, next := range want {
			wantAfter(t, c, number, place, next)
		}
	}
	wantAfter(t, small(), 0, 0, 0)
	wantReceiver(t, small(), 0, 0, 0)
}

// chains are all of one to n places of n receivers, none of them twice, in each order.
func chains(n int) [][]int {
	var l [][]int
	rows := [][]int{{}}
	for range n {
		var longer [][]int
		for _, row := range rows {
			for told := range n {
				if !slices.Contains(row, told) {
					longer = append(longer, append(slices.Clone(row), told))
				}
			}
		}
		l = append(l, longer...)
		rows = longer
	}
	return l
}

// P15.2: Receiver and After at each place, and out of range, of all chains of one to four receivers, alone and in each of four routes, beside chains of one place and of all.
func TestAllChains(t *testing.T) {
	names := []string{"a", "b", "c", "d"}
	for n := 1; n <= 4; n++ {
		all := chain(0, 1, 2, 3)[:n]
		for _, row := range chains(n) {
			c := some(path(row))
			c.Receivers = receivers(names[:n]...)
			wantAllPlaces(t, c)
			for number := range 4 {
				c.Routes = []api.Route{path(all), path(all), path(all), path(all)}
				c.Routes[number].Chain = row
				c.Routes[(number+1)%4].Chain = chain(0)
				wantAllPlaces(t, c)
			}
		}
	}
}

func wantAllPlaces(t *testing.T, c api.Config) {
	t.Helper()
	for number := -1; number <= 5; number++ {
		for place := -1; place <= 5; place++ {
			wantPlace(t, c, number, place)
		}
	}
}

// P15.2: ErrRange of a route that there is not: -1, as many as there are, one beyond, the least and the greatest int; of one to four routes.
func TestNoRoute(t *testing.T) {
	for n := 1; n <= 4; n++ {
		c := some(full().Routes[:n]...)
		for _, number := range []int{-1, -2, -n, n, n + 1, 1 << 32, -1 << 32, math.MinInt, math.MinInt + 1, math.MaxInt - 1, math.MaxInt} {
			for place := range 4 {
				wantNoPlace(t, c, number, place, api.ErrRange)
			}
			wantNoPlace(t, c, number, -1, api.ErrRange)
			wantNoPlace(t, c, number, 4, api.ErrRange)
			wantNoPlace(t, c, number, number, api.ErrRange)
			wantNoPlace(t, c, number, math.MinInt, api.ErrRange)
			wantNoPlace(t, c, number, math.MaxInt, api.ErrRange)
		}
	}
}

// P15.2: ErrRange of a place that a route's Chain has not, also where another route's has it: -1, as many as there are, one beyond, the least and the greatest int.
func TestNoPlace(t *testing.T) {
	c := full()
	for number, n := range []int{4, 1, 2, 3} {
		for _, place := range []int{-1, -2, -n, n, n + 1, 1 << 32, -1 << 32, math.MinInt, math.MinInt + 1, math.MaxInt - 1, math.MaxInt} {
			wantNoPlace(t, c, number, place, api.ErrRange)
		}
	}
	wantReceiver(t, c, 0, 3, 2)
	wantNoPlace(t, c, 1, 1, api.ErrRange)
	wantNoPlace(t, c, 2, 3, api.ErrRange)
	wantNoPlace(t, c, 3, 3, api.ErrRange)
}

// P15.2: a place is counted in the Chain, not among the receivers: what a receiver's number is, there need be no place.
func TestPlacesAreNoReceivers(t *testing.T) {
	c := some(path(chain(3)), path(chain(2, 1)))
	wantReceiver(t, c, 0, 0, 3)
	wantNoPlace(t, c, 0, 3, api.ErrRange)
	wantReceiver(t, c, 1, 1, 1)
	wantNoPlace(t, c, 1, 2, api.ErrRange)
	wantAfter(t, c, 1, 0, 1)
}

// P15.2: Receiver and After do not ask what the route asks.
func TestPlacesByWhatIsAsked(t *testing.T) {
	for _, ms := range [][]api.Matcher{nil, {}, taking(), leaving(), taking()[:1], leaving()[3:]} {
		c := some(path(chain(2, 0, 1), ms...), path(chain(1, 3)))
		wantReceiver(t, c, 0, 1, 0)
		wantAfter(t, c, 0, 2, 0)
		wantAllPlaces(t, c)
	}
}

// P15.3: from each place one comes by After, in as many steps as the chain is long, to each place once, and back; on the way Receiver meets each of the chain's receivers once.
func TestRound(t *testing.T) {
	for _, row := range chains(4) {
		for number := range 2 {
			routes := []api.Route{path(chain(1, 0)), path(chain(1, 0))}
			routes[number] = path(row)
			for from := range row {
				wantRound(t, some(routes...), number, from)
			}
		}
	}
}

func wantRound(t *testing.T, c api.Config, number, from int) {
	t.Helper()
	row := c.Routes[number].Chain
	var places, told []int
	place := from
	for range row {
		who, why := route.Receiver(c, number, place)
		next, reason := route.After(c, number, place)
		if why != api.OK || reason != api.OK {
			t.Fatalf("at place %d of %v: %d, %d", place, row, why, reason)
		}
		places, told = append(places, place), append(told, who)
		place = next
	}
	slices.Sort(places)
	want := []int{0, 1, 2, 3}[:len(row)]
	if place != from || !slices.Equal(places, want) {
		t.Errorf("from place %d of %v one comes to %d, by %v", from, row, place, places)
	}
	if !slices.Equal(slices.Sorted(slices.Values(told)), slices.Sorted(slices.Values(row))) {
		t.Errorf("from place %d of %v Receiver meets %v", from, row, told)
	}
}

// P1: lists and texts that are long, and numbers at both ends.
func TestLongLists(t *testing.T) {
	long := []api.Config{
		with(full(), func(c *api.Config) { c.Receivers = slices.Repeat(c.Receivers, 100000) }),
		with(full(), func(c *api.Config) { c.Routes = slices.Repeat(c.Routes, 100000) }),
		with(full(), func(c *api.Config) { c.Routes[3].Chain = make([]int, 1000000) }),
		with(full(), func(c *api.Config) { c.Routes[3].Asked = slices.Repeat(c.Routes[3].Asked, 100000) }),
		with(full(), func(c *api.Config) { c.Receivers[3].Name = strings.Repeat("a", 1<<20) }),
		with(full(), func(c *api.Config) { c.Routes[3].Asked[0].Value = strings.Repeat("a", 1<<20) }),
	}
	for i, c := range long {
		number, why := route.Choose(c, labels("a", "x"))
		told, second := route.Receiver(c, 3, 7)
		place, third := route.After(c, 3, 7)
		if number != 0 || told != 0 || place != 0 || why != api.ErrArg || second != api.ErrArg || third != api.ErrArg {
			t.Errorf("long %d: %d, %d; %d, %d; %d, %d", i, number, why, told, second, place, third)
		}
	}
	if number, why := route.Choose(small(), labels("a", strings.Repeat("a", 1<<20))); number != 0 || why != api.ErrArg {
		t.Errorf("long label: %d, %d", number, why)
	}
	for _, n := range []int{math.MinInt, math.MaxInt} {
		c := api.Config{Receivers: []api.Receiver{receiver("a", n, n, n, n, n, n, n, n)}, Routes: []api.Route{path(chain(n), asks(n, "", ""))}, Repeat: n, Beat: n}
		wantNoChoose(t, c, labels("a", "x"), api.ErrArg)
		wantNoPlace(t, c, n, n, api.ErrArg)
	}
}

// P15.1 and R3: a nil list counts as an empty one: of labels, receivers, routes, a Chain, and Asked.
func TestNilLists(t *testing.T) {
	for _, c := range bases() {
		wantNoChoose(t, c, nil, api.ErrArg)
		wantNoChoose(t, c, []api.Label{}, api.ErrArg)
		for i := range c.Routes {
			for _, no := range []api.Config{
				with(c, func(c *api.Config) { c.Receivers = nil }), with(c, func(c *api.Config) { c.Receivers = []api.Receiver{} }),
				with(c, func(c *api.Config) { c.Routes = nil }), with(c, func(c *api.Config) { c.Routes = []api.Route{} }),
				with(c, func(c *api.Config) { c.Routes[i].Chain = nil }), with(c, func(c *api.Config) { c.Routes[i].Chain = []int{} }),
			} {
				wantNoChoose(t, no, labels("a", "x"), api.ErrArg)
				wantNoPlace(t, no, 0, 0, api.ErrArg)
			}
			for _, nothing := range [][]api.Matcher{nil, {}} {
				c := with(c, func(c *api.Config) { c.Routes[i].Asked = nothing })
				wantChosen(t, c, labels("q", ""))
				wantAllPlaces(t, c)
			}
		}
	}
}

// room is a copy of the config in lists that have room behind their ends, with something in it: if it counted, it would take all, or be a place more.
func room(c api.Config) api.Config {
	c = copyOf(c)
	for i := range c.Routes {
		one := &c.Routes[i]
		one.Chain = append(one.Chain, 0, 7)[:len(one.Chain)]
		one.Asked = append(one.Asked, asks(has, "q", ""), api.Matcher{})[:len(one.Asked)]
	}
	c.Receivers = append(c.Receivers, named("y"), named("if"))[:len(c.Receivers)]
	c.Routes = append(c.Routes, open(), api.Route{})[:len(c.Routes)]
	return c
}

// whole is the config with all that its lists have room for.
func whole(c api.Config) api.Config {
	c.Receivers = c.Receivers[:cap(c.Receivers)]
	c.Routes = slices.Clone(c.Routes[:cap(c.Routes)])
	for i := range c.Routes {
		c.Routes[i].Chain = c.Routes[i].Chain[:cap(c.Routes[i].Chain)]
		c.Routes[i].Asked = c.Routes[i].Asked[:cap(c.Routes[i].Asked)]
	}
	return copyOf(c)
}

// R4: no call changes the config or the labels that it was handed, nor what lies behind their ends; and that counts for nothing.
func TestListsStay(t *testing.T) {
	for _, base := range append(bases(), noConfigs()[:200]...) {
		c := room(base)
		l := append(labels("a", "x", "b", "z"), labels("q", "r", "", "")...)[:2]
		was, wasLabels := whole(c), slices.Clone(l[:4])
		for _, n := range edges() {
			for _, k := range edges() {
				got, why := route.Receiver(c, n, k)
				if want, reason := route.Receiver(base, n, k); got != want || why != reason {
					t.Fatalf("with room Receiver is %d, %d, without %d, %d", got, why, want, reason)
				}
				got, why = route.After(c, n, k)
				if want, reason := route.After(base, n, k); got != want || why != reason {
					t.Fatalf("with room After is %d, %d, without %d, %d", got, why, want, reason)
				}
			}
		}
		for _, row := range [][]api.Label{l, l[:1], l[1:], l[:0], l[:3], l[:4]} {
			got, why := route.Choose(c, row)
			if want, reason := route.Choose(base, slices.Clone(row)); got != want || why != reason {
				t.Fatalf("with room Choose is %d, %d, without %d, %d", got, why, want, reason)
			}
		}
		if !isSame(whole(c), was) || !slices.Equal(l[:4], wasLabels) {
			t.Fatalf("%+v and %v were handed, and became %+v and %v", was, wasLabels, whole(c), l[:4])
		}
	}
}

// R1: a call answers the same, whatever was called ahead of it.
func TestNothingIsKept(t *testing.T) {
	c, no := full(), some(path(chain(0, 0)))
	for range 3 {
		wantChoose(t, c, labels("a", "x"), 0)
		wantNoChoose(t, no, labels("a", "x"), api.ErrArg)
		wantReceiver(t, c, 0, 1, 1)
		wantChoose(t, c, labels("zone", "eu-1"), 1)
		wantNoPlace(t, no, 0, 1, api.ErrArg)
		wantAfter(t, c, 0, 3, 0)
		wantNoneChosen(t, c, labels("q", "x"))
		wantReceiver(t, c, 3, 1, 2)
		wantNoPlace(t, c, 1, 1, api.ErrRange)
		wantNoChoose(t, c, labels("A", "x"), api.ErrArg)
		wantAfter(t, c, 3, 1, 2)
		wantChoose(t, small(), labels("q", "x"), 0)
		wantReceiver(t, small(), 0, 0, 0)
		wantAfter(t, c, 1, 0, 0)
		wantChoose(t, c, labels("a", "", "b", "z", "c", "w"), 2)
	}
}
