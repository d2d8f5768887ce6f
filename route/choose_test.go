package route_test

import (
	"math/rand/v2"
	"slices"
	"testing"

	"foghorn/api"
	"foghorn/route"
)

// P15.1: the chapter's example.
func TestExample(t *testing.T) {
	c := some(path(chain(0), asks(is, "zone", "eu")), path(chain(1)))
	wantChoose(t, c, labels("zone", "us"), 1)
	wantChoose(t, c, labels("zone", "eu"), 0)
	wantChoose(t, c, labels("a", "x"), 1)
}

// P15.1: Choose, written out: what a route of one matcher takes, and what it leaves to the one behind it.
func TestChooseByMatcher(t *testing.T) {
	web := labels("a", "web", "z", "eu-1")
	for _, c := range []struct {
		m     api.Matcher
		takes bool
	}{
		{asks(is, "a", "web"), true},
		{asks(is, "z", "eu-1"), true},
		{asks(is, "a", "eu-1"), false},
		{asks(is, "a", "we"), false},
		{asks(is, "a", "webs"), false},
		{asks(is, "a", ""), false},
		{asks(is, "b", "web"), false},
		{asks(is, "b", ""), false},
		{asks(not, "a", "web"), false},
		{asks(not, "z", "eu-1"), false},
		{asks(not, "a", "we"), true},
		{asks(not, "a", ""), true},
		{asks(not, "z", "web"), true},
		{asks(not, "b", "web"), true},
		{asks(not, "b", ""), true},
		{asks(begins, "a", ""), true},
		{asks(begins, "a", "we"), true},
		{asks(begins, "a", "web"), true},
		{asks(begins, "a", "webs"), false},
		{asks(begins, "a", "eb"), false},
		{asks(begins, "z", "eu-"), true},
		{asks(begins, "b", ""), false},
		{asks(has, "a", ""), true},
		{asks(has, "z", ""), true},
		{asks(has, "b", ""), false},
		{asks(has, "zz", ""), false},
	} {
		if !c.takes {
			wantNoneChosen(t, some(path(chain(0), c.m)), web)
			wantChoose(t, some(path(chain(0), c.m), open()), web, 1)
			wantChoose(t, some(path(chain(0), c.m), path(chain(0), c.m), path(chain(0), asks(has, "a", ""))), web, 2)
			continue
		}
		wantChoose(t, some(path(chain(0), c.m)), web, 0)
		wantChoose(t, some(path(chain(0), c.m), open()), web, 0)
		wantChoose(t, some(path(chain(0), asks(has, "b", "")), path(chain(0), c.m), path(chain(0), c.m)), web, 1)
	}
}

// taking match a=x b=y, one of each kind, and leaving do not.
func taking() []api.Matcher {
	return matchers(asks(is, "a", "x"), asks(not, "b", "x"), asks(begins, "b", "y"), asks(has, "a", ""))
}

func leaving() []api.Matcher {
	return matchers(asks(is, "a", "y"), asks(not, "b", "y"), asks(begins, "b", "yy"), asks(has, "c", ""))
}

// P15.1: Choose: the first of those that take, of one to four routes: each choice of them takes, none among these, by each kind of matcher.
func TestChooseTheFirst(t *testing.T) {
	l := labels("a", "x", "b", "y")
	for kind := range 4 {
		for n := 1; n <= 4; n++ {
			for takes := range 1 << n {
				first := -1
				var rows [][]api.Matcher
				for i := range n {
					if takes>>i&1 == 0 {
						rows = append(rows, matchers(leaving()[(kind+i)%4]))
						continue
					}
					rows = append(rows, matchers(taking()[(kind+i)%4]))
					if first < 0 {
						first = i
					}
				}
				if first < 0 {
					wantNoneChosen(t, asking(rows...), l)
				} else {
					wantChoose(t, asking(rows...), l, first)
				}
			}
		}
	}
}

// P15.1 and R3: Choose: routes that ask nothing, by a nil list and by an empty one, at each place of one to four; those ahead take or don't.
func TestChooseOfRoutesThatAskNothing(t *testing.T) {
	l := labels("a", "x", "b", "y")
	for _, nothing := range [][]api.Matcher{nil, {}, taking()[:0]} {
		for n := 1; n <= 4; n++ {
			for place := range n {
				for kind := range 4 {
					rows := slices.Repeat([][]api.Matcher{matchers(leaving()[kind])}, n)
					rows[place] = nothing
					wantChoose(t, asking(rows...), l, place)
					for ahead := range place {
						rows := slices.Clone(rows)
						rows[ahead] = matchers(taking()[kind])
						wantChoose(t, asking(rows...), l, ahead)
					}
				}
			}
			wantChoose(t, asking(slices.Repeat([][]api.Matcher{nothing}, n)...), l, 0)
		}
	}
	wantChoose(t, asking(leaving()[:1], nil, leaving()[:1], nil), l, 1)
}

// P15.1: Choose: a route of one to four matchers takes only if all of them match: each choice of them does; at each place of four routes, and alone.
func TestChooseByAllMatchers(t *testing.T) {
	l := labels("a", "x", "b", "y")
	for n := 1; n <= 4; n++ {
		for match := range 1 << n {
			for turn := range 4 {
				var ms []api.Matcher
				for k := range n {
					if match>>k&1 == 1 {
						ms = append(ms, taking()[(k+turn)%4])
					} else {
						ms = append(ms, leaving()[(k+turn)%4])
					}
				}
				wantTakes(t, ms, l, match == 1<<n-1)
			}
		}
	}
}

// wantTakes puts one route alone, and at each place of four; the others don't take, or the last one asks nothing.
func wantTakes(t *testing.T, ms []api.Matcher, l []api.Label, want bool) {
	t.Helper()
	wantOne(t, asking(ms), l, 0, want)
	for place := range 4 {
		rows := slices.Repeat([][]api.Matcher{leaving()}, 4)
		rows[place] = ms
		wantOne(t, asking(rows...), l, place, want)
		if place == 3 {
			continue
		}
		rows[3] = nil
		if want {
			wantChoose(t, asking(rows...), l, place)
		} else {
			wantChoose(t, asking(rows...), l, 3)
		}
	}
}

// wantOne is the one route that may take the labels, or none.
func wantOne(t *testing.T, c api.Config, l []api.Label, number int, takes bool) {
	t.Helper()
	if takes {
		wantChoose(t, c, l, number)
	} else {
		wantNoneChosen(t, c, l)
	}
}

// P15.1: Choose: matchers of two routes are not one route's: each has to match all by itself.
func TestChooseByEachAlone(t *testing.T) {
	x, y, no := asks(is, "a", "x"), asks(is, "b", "y"), asks(is, "c", "z")
	l := labels("a", "x", "b", "y")
	wantNoneChosen(t, asking(matchers(x, no), matchers(y, no)), l)
	wantNoneChosen(t, asking(matchers(x, no), matchers(no, x), matchers(y, no), matchers(no, y)), l)
	wantChoose(t, asking(matchers(x, no), matchers(y)), l, 1)
	wantChoose(t, asking(matchers(no, x), matchers(x, y, no), matchers(y, x)), l, 2)
	wantChoose(t, asking(matchers(x, no), matchers(x, y), matchers(x)), l, 1)
}

// P15.1: Choose: ErrNone, where no route takes the labels, of one to four routes.
func TestChooseNone(t *testing.T) {
	for n := 1; n <= 4; n++ {
		for _, m := range leaving() {
			wantNoneChosen(t, asking(slices.Repeat([][]api.Matcher{matchers(m)}, n)...), labels("a", "x", "b", "y"))
		}
		wantNoneChosen(t, asking(slices.Repeat([][]api.Matcher{leaving()}, n)...), labels("a", "x", "b", "y"))
		wantNoneChosen(t, asking(slices.Repeat([][]api.Matcher{matchers(asks(has, "a", ""), asks(is, "a", ""))}, n)...), labels("b", "y"))
	}
	wantNoneChosen(t, full(), labels("q", "x"))
}

// P15.1: Choose answers the route's number, whatever its Chain is, and whatever the receivers are called.
func TestChooseByNumber(t *testing.T) {
	c := some(path(chain(3, 2, 1), asks(is, "a", "x")), path(chain(2, 3), asks(is, "a", "y")), path(chain(0), asks(is, "a", "z")), path(chain(1, 0, 2, 3), asks(is, "a", "w")))
	for number, value := range []string{"x", "y", "z", "w"} {
		wantChoose(t, c, labels("a", value), number)
		wantChoose(t, c, labels("a", value, "b", "x", "c", "y"), number)
	}
	wantNoneChosen(t, c, labels("a", "v"))
	wantNoneChosen(t, c, labels("b", "x"))
}

// P15.1: Choose: of all rows of up to three of some routes, all labels of few names and values.
func TestChooseOfAllRows(t *testing.T) {
	few := [][]api.Matcher{
		nil, matchers(asks(is, "a", "x")), matchers(asks(not, "a", "x")), matchers(asks(begins, "a", "x")), matchers(asks(has, "b", "")),
		matchers(asks(not, "b", ""), asks(has, "b", "")), matchers(asks(has, "a", ""), asks(has, "b", "")), matchers(asks(is, "b", "")),
	}
	for _, l := range smallLabels() {
		for _, first := range few {
			wantChosen(t, asking(first), l)
			for _, second := range few {
				wantChosen(t, asking(first, second), l)
				for _, third := range few {
					wantChosen(t, asking(first, second, third), l)
				}
			}
		}
	}
}

// smallLabels are all of the names a and b, with each of three values.
func smallLabels() [][]api.Label {
	var l [][]api.Label
	values := []string{"", "x", "xy"}
	for _, value := range values {
		l = append(l, labels("a", value), labels("b", value))
		for _, other := range values {
			l = append(l, labels("a", value, "b", other))
		}
	}
	return l
}

// someConfig has up to four routes, of up to four matchers of few names and values.
func someConfig(r *rand.Rand) api.Config {
	c := some()
	for range 1 + r.IntN(4) {
		one := path(r.Perm(4)[:1+r.IntN(4)])
		for range r.IntN(5) {
			m := asks(r.IntN(4), []string{"a", "b", "z"}[r.IntN(3)], []string{"", "x", "xy", "y"}[r.IntN(4)])
			if m.Kind == has {
				m.Value = ""
			}
			one.Asked = append(one.Asked, m)
		}
		c.Routes = append(c.Routes, one)
	}
	return c
}

// P15.1: Choose of many configs, and of many labels.
func TestChooseOfMany(t *testing.T) {
	r := source()
	var numbers [4]int
	nones := 0
	for range 3000 {
		c := someConfig(r)
		for _, l := range append(smallLabels(), labels("a", "x", "b", "y", "z", "xy"), labels("z", ""), labels("q", "x")) {
			wantChosen(t, c, l)
			if number, why := chosen(c, l); why == api.OK {
				numbers[number]++
			} else {
				nones++
			}
		}
	}
	if slices.Min(numbers[:]) < 500 || nones < 500 {
		t.Errorf("%v chosen, and %d times none", numbers, nones)
	}
}

// P15.3: a route that asks nothing takes all labels that may be, whatever stands behind it.
func TestOpenRouteTakesAll(t *testing.T) {
	r := source()
	for range 1000 {
		c := someConfig(r)
		c.Routes[0].Asked = nil
		for _, l := range slices.Concat(fewLabels(), smallLabels()) {
			wantChoose(t, c, l, 0)
		}
	}
	for _, l := range fewLabels() {
		wantChoose(t, small(), l, 0)
		wantChoose(t, openFirst(), l, 0)
	}
}

// P15.3: the routes behind one that asks nothing take none, wherever that one stands: without them Choose answers the same.
func TestBehindAnOpenRoute(t *testing.T) {
	r := source()
	for range 1000 {
		c := someConfig(r)
		at := r.IntN(len(c.Routes))
		c.Routes[at].Asked = nil
		short := with(c, func(c *api.Config) { c.Routes = c.Routes[:at+1] })
		for _, l := range slices.Concat(fewLabels(), smallLabels()) {
			wantChosen(t, c, l)
			got, why := route.Choose(c, l)
			if alone, reason := route.Choose(short, l); got > at || why != api.OK || alone != got || reason != api.OK {
				t.Errorf("Choose(%+v, %v) = %d, %d, and %d, %d without those behind route %d", c, l, got, why, alone, reason, at)
			}
		}
	}
}
