package outbox_test

import (
	"fmt"
	"math"
	"slices"
	"strings"

	"foghorn/api"
)

// changed is the config with one change.
func changed(c api.Config, do func(c *api.Config)) api.Config {
	c.Receivers = slices.Clone(c.Receivers)
	c.Routes = slices.Clone(c.Routes)
	for i := range c.Routes {
		c.Routes[i].Chain = slices.Clone(c.Routes[i].Chain)
		c.Routes[i].Asked = slices.Clone(c.Routes[i].Asked)
	}
	do(&c)
	return c
}

// noReceivers may not be: by Name, by Back, by Tries, by what is a breaker's and a bucket's.
func noReceivers() []api.Receiver {
	var l []api.Receiver
	for _, name := range []string{"", "if", "A", "abcdefghi", "q1", "q r", "\xff"} {
		l = append(l, tried(name, 3))
	}
	for at, beyond := range []int{maxBase + 1, maxWait + 1, maxBase + 1, 101, 101, maxBase + 1, 101, maxBase + 1} {
		for _, n := range []int{math.MinInt, -1, 0, beyond, math.MaxInt} {
			numbers := []int{1, maxWait, 0, 3, 5, 10, 2, 4}
			numbers[at] = n
			if at != 2 || n != 0 {
				l = append(l, receiver("q", numbers...))
			}
		}
	}
	return append(l, receiver("q", 9, 8, 0, 3, 5, 10, 2, 4), api.Receiver{})
}

// noMatchers may not be: by Kind, by a Value beside MHas, by Name, by Value.
func noMatchers() []api.Matcher {
	l := []api.Matcher{{}, asks(-1, "a", "x"), asks(4, "a", ""), asks(math.MinInt, "a", ""), asks(math.MaxInt, "a", ""), asks(has, "a", "x")}
	for kind := range 4 {
		l = append(l, asks(kind, "", ""), asks(kind, "A", ""), asks(kind, "abcdefghi", ""), asks(kind, "a", "X"), asks(kind, "a", "abcdefghi"), asks(kind, "a", "\xff"))
	}
	return l
}

// noConfigs may not be, each for one reason of chapter 13.
func noConfigs() []api.Config {
	l := []api.Config{{}}
	for _, base := range bases() {
		add := func(do func(c *api.Config)) {
			l = append(l, changed(base, do))
		}
		for _, some := range [][]api.Receiver{nil, {}, append(four(), tried("e", 3)), make([]api.Receiver, 4), slices.Repeat(four(), 100)} {
			add(func(c *api.Config) { c.Receivers = some })
		}
		for i := range base.Receivers {
			for _, no := range noReceivers() {
				add(func(c *api.Config) { c.Receivers[i] = no })
			}
			if i > 0 {
				add(func(c *api.Config) { c.Receivers[i].Name = c.Receivers[0].Name })
			}
		}
		for _, some := range [][]api.Route{nil, {}, slices.Repeat([]api.Route{path([]int{0})}, 5), slices.Repeat([]api.Route{path([]int{0})}, 1000)} {
			add(func(c *api.Config) { c.Routes = some })
		}
		for i := range base.Routes {
			for _, row := range [][]int{nil, {}, {0, 1, 2, 3, 0}, {-1}, {0, 0}, {len(base.Receivers)}, {math.MaxInt}, {math.MinInt}, make([]int, 1000)} {
				add(func(c *api.Config) { c.Routes[i].Chain = row })
			}
			for _, no := range noMatchers() {
				add(func(c *api.Config) { c.Routes[i].Asked = []api.Matcher{no} })
				add(func(c *api.Config) { c.Routes[i].Asked = []api.Matcher{asks(is, "a", "x"), no} })
			}
			add(func(c *api.Config) { c.Routes[i].Asked = slices.Repeat([]api.Matcher{asks(is, "a", "x")}, 5) })
		}
		for _, no := range []int{math.MinInt, -1, 0, maxWait + 1, last, math.MaxInt} {
			add(func(c *api.Config) { c.Repeat = no })
			add(func(c *api.Config) { c.Beat = no })
		}
	}
	return l
}

// noDisks are no outbox's, by how many sectors they have or by how long one is.
func noDisks() []api.Disk {
	var l []api.Disk
	for _, n := range []int{0, 1, 2, 9, 10, 11, 26, 50, 51, 52, 53, 55, 57, 129, 131, 132, 134, 260} {
		l = append(l, blank(n))
	}
	for _, size := range []int{0, 1, 127, 129, 256} {
		for _, at := range []int{0, 1, 2, 30, 53} {
			l = append(l, with(blank(54), at, strings.Repeat("\x00", size)))
		}
	}
	return append(l, api.Disk{Sectors: make([]string, 54)}, api.Disk{Sectors: []string{}})
}

// noStores may not be, each for one reason of chapter 4, or are too small.
func noStores() []api.Store {
	var l []api.Store
	for _, d := range noDisks() {
		l = append(l, api.Store{Disk: d, Gen: 1, Top: 1})
	}
	for _, n := range []int{54, 130} {
		right := api.Store{Disk: logged(n, 7).Disk, Gen: 7, Used: 0, Top: 9}
		add := func(do func(s *api.Store)) {
			s := right
			do(&s)
			l = append(l, s)
		}
		for _, gen := range []int{math.MinInt, -1, 0, 251, 252, math.MaxInt} {
			add(func(s *api.Store) { s.Gen = gen })
			add(func(s *api.Store) { s.Gen, s.Top = gen, gen })
		}
		for _, used := range []int{math.MinInt, -1, n/2 - 1 + 1, n, math.MaxInt} {
			add(func(s *api.Store) { s.Used = used })
		}
		for _, top := range []int{math.MinInt, -1, 0, 6, 251, math.MaxInt} {
			add(func(s *api.Store) { s.Top = top })
		}
	}
	return append(l, api.Store{})
}

// noLabels may not be: none, four, not rising, two of one Name, no name, no value.
func noLabels() [][]api.Label {
	return [][]api.Label{
		nil, {}, make([]api.Label, 1), labels("a", "x", "b", "x", "c", "x", "d", "x"), slices.Repeat(ax(), 1000),
		labels("b", "x", "a", "x"), labels("a", "x", "c", "x", "b", "x"), labels("a", "x", "a", "x"), labels("a", "x", "b", "x", "b", "y"),
		labels("", "x"), labels("A", "x"), labels("abcdefghi", "x"), labels("a1", "x"), labels("\xff", "x"), labels("a", "x", "b-", "x"),
		labels("a", "X"), labels("a", "abcdefghi"), labels("a", "x y"), labels("a", "\xff"), labels("a", "x", "b", "="),
	}
}

// noDuties may not be with the config, though their labels rise as those of that number do, where they may be at all.
func noDuties(c api.Config, number int) []api.Duty {
	l := []api.Duty{{}, owed(nil, 0, 0, 0, 0, sNew)}
	for _, no := range noLabels() {
		l = append(l, owed(no, 0, 0, 0, 5, sNew))
	}
	for _, route := range []int{math.MinInt, -1, len(c.Routes), len(c.Routes) + 1, 1 << 32, math.MaxInt} {
		l = append(l, owed(nth(number), route, 0, 0, 5, sNew))
	}
	for route, one := range c.Routes {
		for _, at := range []int{math.MinInt, -1, len(one.Chain), len(one.Chain) + 1, 1 << 32, math.MaxInt} {
			l = append(l, owed(nth(number), route, at, 0, 5, sNew))
		}
		for at, who := range one.Chain {
			for _, tries := range []int{math.MinInt, -1, c.Receivers[who].Tries, c.Receivers[who].Tries + 1, 1 << 32, math.MaxInt} {
				l = append(l, owed(nth(number), route, at, tries, 5, sNew))
			}
		}
	}
	for _, due := range noTimes() {
		l = append(l, owed(nth(number), 0, 0, 0, due, sNew))
	}
	for _, state := range []int{math.MinInt, -1, 0, 4, 1<<32 + 1, math.MaxInt} {
		l = append(l, owed(nth(number), 0, 0, 0, 5, state))
	}
	return l
}

func noTimes() []int {
	return []int{math.MinInt, -1, last + 1, math.MaxInt}
}

// noHush may not be, each for one reason of chapter 12.
func noHush() []api.Hush {
	ax := asks(is, "a", "x")
	l := []api.Hush{{}, quiet(0, 5), quiet(0, 5, slices.Repeat([]api.Matcher{ax}, 5)...), quiet(0, 5, slices.Repeat([]api.Matcher{ax}, 1000)...), quiet(5, 5, ax), quiet(6, 5, ax), quiet(last, last, ax)}
	for _, no := range noTimes() {
		l = append(l, quiet(no, 5, ax), quiet(5, no, ax), quiet(no, no, ax))
	}
	for _, no := range noMatchers() {
		l = append(l, quiet(0, 5, no), quiet(0, 5, ax, no), quiet(0, 5, no, ax, ax, ax))
	}
	return l
}

// noFaults may not be.
func noFaults() []api.Fault {
	return []api.Fault{
		{Kind: -1}, {Kind: 3}, {Kind: math.MinInt}, {Kind: math.MaxInt}, {Kind: 1 << 32}, {Kind: -1, K: 5}, {Kind: 3, K: 128},
		{Kind: 0, K: -1}, {Kind: 0, K: 129}, {Kind: 1, K: -1}, {Kind: 1, K: 129}, {Kind: 2, K: -1}, {Kind: 2, K: 129}, {Kind: 2, K: math.MinInt}, {Kind: 2, K: math.MaxInt},
	}
}

// swapped are rows of duties that do not rise: two side by side the wrong way round, or of the same Labels.
func swapped() [][]api.Duty {
	var l [][]api.Duty
	for i := range 15 {
		wrong := row(16)
		wrong[i], wrong[i+1] = wrong[i+1], wrong[i]
		same := row(16)
		same[i+1].Labels = same[i].Labels
		l = append(l, wrong, wrong[max(i-1, 0):i+2], wrong[i:i+2], same, same[i:i+2])
	}
	one := fresh(ax(), 5)
	return append(l,
		[]api.Duty{one, one}, []api.Duty{one, fresh(ax(), 6)}, []api.Duty{fresh(ax(), 6), one}, []api.Duty{one, owed(ax(), 0, 0, 1, 5, sTold)}, []api.Duty{one, owed(ax(), 0, 0, 0, 6, sDone)},
		[]api.Duty{fresh(labels("b", "x"), 5), one}, []api.Duty{fresh(labels("b", "x"), 6), one}, []api.Duty{fresh(labels("a", "y"), 5), one}, []api.Duty{fresh(labels("a", "x", "b", ""), 5), one},
	)
}

// noOutboxes may not be with the config, though that may: by the store, by the duties, by the hushes.
func noOutboxes(c api.Config) map[string]api.Outbox {
	all := map[string]api.Outbox{}
	right := keeping(54, 3, 0, row(3), hushes(3))
	add := func(name string, do func(o *api.Outbox)) {
		all[fmt.Sprint(name, ", ", len(all))] = change(right, do)
	}
	for _, s := range noStores() {
		add("a store", func(o *api.Outbox) { o.Store = s })
		all[fmt.Sprint("nothing in a store, ", len(all))] = api.Outbox{Store: s}
	}
	for _, n := range []int{17, 18, 1000} {
		add("too many duties", func(o *api.Outbox) { o.Duties = row(n) })
	}
	for i := range 3 {
		for _, no := range noDuties(c, i) {
			add("a duty", func(o *api.Outbox) { o.Duties[i] = no })
		}
	}
	for _, no := range noDuties(c, 0) {
		add("a duty alone", func(o *api.Outbox) { o.Duties = []api.Duty{no} })
	}
	for _, wrong := range swapped() {
		add("no order", func(o *api.Outbox) { o.Duties = wrong })
	}
	for _, n := range []int{9, 10, 1000} {
		add("too many hushes", func(o *api.Outbox) { o.Hushes = hushes(n) })
	}
	for i := range 3 {
		for _, no := range noHush() {
			add("a hush", func(o *api.Outbox) { o.Hushes[i] = no })
		}
	}
	return all
}
