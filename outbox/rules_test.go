package outbox_test

import (
	"math"
	"slices"
	"strings"
	"testing"

	"foghorn/api"
	"foghorn/outbox"
)

// handed is all that calls are handed, each list with room behind its last element, and something there.
type handed struct {
	c      api.Config
	o      api.Outbox
	d      api.Duty
	l      []api.Label
	h      api.Hush
	faults []api.Fault
}

// behind is the list, with more in its memory behind its last element.
func behind[T any](l []T, more ...T) []T {
	return append(slices.Clone(l), more...)[:len(l)]
}

// handedOver is the same each time, in memory of its own.
func handedOver(used int) handed {
	left := api.Label{Name: "left", Value: "left"}
	x := handed{c: full(), o: keeping(54, 3, used, row(4), hushes(4)), d: row(5)[4], l: nth(2), h: quiet(3, 2000, asks(is, "q", ""))}
	for i := range x.c.Routes {
		x.c.Routes[i].Chain = behind(x.c.Routes[i].Chain, 9)
		x.c.Routes[i].Asked = behind(x.c.Routes[i].Asked, asks(9, "left", ""))
	}
	x.c.Receivers = behind(x.c.Receivers, receiver("left", 9, 9, 9, 9, 9, 9, 9, 9))
	x.c.Routes = behind(x.c.Routes, path([]int{9}))
	for i := range x.o.Duties {
		x.o.Duties[i].Labels = behind(x.o.Duties[i].Labels, left)
	}
	for i := range x.o.Hushes {
		x.o.Hushes[i].Asked = behind(x.o.Hushes[i].Asked, asks(9, "left", ""))
	}
	x.o.Duties = behind(x.o.Duties, fresh(labels("left", "left"), 9), fresh(labels("left", "left"), 9))
	x.o.Hushes = behind(x.o.Hushes, until(9), until(9))
	x.o.Store.Disk.Sectors = behind(x.o.Store.Disk.Sectors, "left")
	x.d.Labels = behind(x.d.Labels, left)
	x.l = behind(x.l, left)
	x.h.Asked = behind(x.h.Asked, asks(9, "left", ""))
	x.faults = behind([]api.Fault{none, none}, api.Fault{Kind: 9}, api.Fault{Kind: 9})
	return x
}

// whole is all of a list's memory.
func whole[T any](l []T) []T {
	return l[:cap(l)]
}

// isAs holds each list with what lies behind it.
func (x handed) isAs(y handed) bool {
	sameDuty := func(a, b api.Duty) bool {
		return isSameDuty(a, b) && slices.Equal(whole(a.Labels), whole(b.Labels))
	}
	sameHush := func(a, b api.Hush) bool {
		return isSameHush(a, b) && slices.Equal(whole(a.Asked), whole(b.Asked))
	}
	return slices.Equal(whole(x.c.Receivers), whole(y.c.Receivers)) &&
		slices.EqualFunc(whole(x.c.Routes), whole(y.c.Routes), func(a, b api.Route) bool {
			return slices.Equal(whole(a.Chain), whole(b.Chain)) && slices.Equal(whole(a.Asked), whole(b.Asked))
		}) &&
		isSame(x.o, y.o) && slices.Equal(whole(x.o.Store.Disk.Sectors), whole(y.o.Store.Disk.Sectors)) &&
		slices.EqualFunc(whole(x.o.Duties), whole(y.o.Duties), sameDuty) &&
		slices.EqualFunc(whole(x.o.Hushes), whole(y.o.Hushes), sameHush) &&
		sameDuty(x.d, y.d) && slices.Equal(whole(x.l), whole(y.l)) && sameHush(x.h, y.h) && slices.Equal(whole(x.faults), whole(y.faults))
}

// scribble writes over all that an answer has, and behind it.
func scribble(o api.Outbox) {
	for i := range whole(o.Store.Disk.Sectors) {
		whole(o.Store.Disk.Sectors)[i] = "scribbled"
	}
	for i := range o.Duties {
		for j := range whole(o.Duties[i].Labels) {
			whole(o.Duties[i].Labels)[j] = api.Label{Name: "scribbled"}
		}
	}
	for i := range whole(o.Duties) {
		whole(o.Duties)[i] = api.Duty{Route: -1}
	}
	for i := range o.Hushes {
		for j := range whole(o.Hushes[i].Asked) {
			whole(o.Hushes[i].Asked)[j] = api.Matcher{Kind: -1}
		}
	}
	for i := range whole(o.Hushes) {
		whole(o.Hushes)[i] = api.Hush{From: -1}
	}
}

// allCalls are what each call answers of what is handed.
func allCalls() map[string]func(x handed) (api.Outbox, api.Errno) {
	return map[string]func(x handed) (api.Outbox, api.Errno){
		"Right": func(x handed) (api.Outbox, api.Errno) {
			outbox.Right(x.c, x.o)
			return api.Outbox{}, api.OK
		},
		"New":             func(x handed) (api.Outbox, api.Errno) { return outbox.New(x.c, 54) },
		"Boot":            func(x handed) (api.Outbox, api.Errno) { return outbox.Boot(x.c, x.o.Store.Disk) },
		"Set":             func(x handed) (api.Outbox, api.Errno) { return outbox.Set(x.c, x.o, x.d, x.faults) },
		"Set anew":        func(x handed) (api.Outbox, api.Errno) { return outbox.Set(x.c, x.o, fresh(x.l, 7), x.faults) },
		"Drop":            func(x handed) (api.Outbox, api.Errno) { return outbox.Drop(x.c, x.o, x.l, x.faults) },
		"Quiet":           func(x handed) (api.Outbox, api.Errno) { return outbox.Quiet(x.c, x.o, x.h, 5, x.faults) },
		"Quiet of others": func(x handed) (api.Outbox, api.Errno) { return outbox.Quiet(x.c, x.o, x.h, 1002, x.faults) },
		"Drop of none":    func(x handed) (api.Outbox, api.Errno) { return outbox.Drop(x.c, x.o, ax(), x.faults) },
		"Quiet too late":  func(x handed) (api.Outbox, api.Errno) { return outbox.Quiet(x.c, x.o, x.h, 2000, x.faults) },
	}
}

// R4: no call changes what it was handed, nor what lies behind it in its memory; nor does what is done to its answer. R1: it answers the same again.
func TestHandedStays(t *testing.T) {
	for _, used := range []int{8, 25, 26} {
		for _, faults := range [][]api.Fault{nil, {none, none}, {fail, none}, {crash(64), none}, {none, crash(64)}, {none, fail}, {none, {Kind: 3}}} {
			for _, isDown := range []bool{false, true} {
				for name, do := range allCalls() {
					handOver := func() handed {
						x := handedOver(used)
						x.o.Store.Down = isDown
						copy(x.faults, faults)
						return x
					}
					x, was := handOver(), handOver()
					got, why := do(x)
					if !x.isAs(was) {
						t.Fatalf("%s changes what it was handed", name)
					}
					kept := copyOf(got)
					scribble(got)
					if !x.isAs(was) {
						t.Fatalf("what is done to %s's answer reaches what was handed", name)
					}
					again, whyAgain := do(x)
					wantOutbox(t, name+" once more", again, whyAgain, kept, why)
				}
			}
		}
	}
}

// R1: a call answers the same, whatever was called ahead of it.
func TestNothingIsKept(t *testing.T) {
	c := small()
	o := keeping(54, 3, 25, row(4), hushes(4))
	acts := append(rightActs(), stoppedActs()...)
	for _, a := range append(writes(), quietBehind()) {
		acts = append(acts, a.act)
	}
	for _, faults := range [][]api.Fault{nil, {fail}, {crash(64)}} {
		for _, one := range acts {
			was, whyWas := one.do(c, o, faults)
			for _, other := range acts {
				got, why := other.do(c, o, faults)
				if why == api.OK {
					other.do(c, got, faults)
				}
				again, whyAgain := one.do(c, o, faults)
				wantOutbox(t, one.name+" once more", again, whyAgain, was, whyWas)
			}
		}
	}
}

// R4: no two lists of an answer share memory.
func TestNothingIsShared(t *testing.T) {
	c := small()
	all := labels("a", "x", "b", "y", "c", "z")
	asked := []api.Matcher{asks(is, "a", "x"), asks(is, "b", "y")}
	o := empty(t, c, 54)
	o.Duties = []api.Duty{fresh(all[:1], 1), fresh(all[:2], 2), fresh(all[:3], 3)}
	o.Hushes = []api.Hush{quiet(0, 2000, asked[:1]...), quiet(0, 2000, asked...)}
	for _, faults := range [][]api.Fault{nil, {fail}, {crash(9)}} {
		for _, a := range []act{set(fresh(all[1:2], 5)), set(fresh(all[:2], 5)), drop(all[:1]), hushed(quiet(1, 2000, asked[1:]...), 5), hushed(quiet(1, 3000, asked[1:]...), 2000)} {
			got, _ := a.do(c, o, faults)
			for i := range got.Duties {
				was := copyOf(got)
				got.Duties[i].Labels[0].Value = "else"
				was.Duties[i].Labels[0].Value = "else"
				if !isSame(got, was) {
					t.Fatalf("%s: duties share their labels", a.name)
				}
			}
			for i := range got.Hushes {
				was := copyOf(got)
				got.Hushes[i].Asked[0].Value = "else"
				was.Hushes[i].Asked[0].Value = "else"
				if !isSame(got, was) {
					t.Fatalf("%s: hushes share their matchers", a.name)
				}
			}
			if !slices.Equal(all, labels("a", "x", "b", "y", "c", "z")) || asked[0].Value != "x" {
				t.Fatalf("%s: the answer shares lists with what was handed", a.name)
			}
		}
	}
}

// R3: nil rows count as empty ones, in what is handed.
func TestNilAndEmpty(t *testing.T) {
	c := small()
	for _, used := range []int{0, 25, 26} {
		for _, duties := range [][]api.Duty{nil, {}} {
			for _, some := range [][]api.Hush{nil, {}} {
				for _, faults := range [][]api.Fault{nil, {}} {
					o := keeping(54, 3, used, duties, some)
					got, why := wantAct(t, c, o, set(fresh(ax(), 5)), faults)
					if why != api.OK || !hasSame(got, api.Outbox{Duties: []api.Duty{fresh(ax(), 5)}}) {
						t.Fatalf("Set: %s, %d", show(got), why)
					}
					got, why = wantAct(t, c, o, hushed(until(5), 0), faults)
					if why != api.OK || !hasSame(got, api.Outbox{Hushes: []api.Hush{until(5)}}) {
						t.Fatalf("Quiet: %s, %d", show(got), why)
					}
					wantErr(t, c, o, drop(ax()), faults, api.ErrNone)
					wantErr(t, c, o, drop([]api.Label{}), faults, api.ErrArg)
					wantErr(t, c, o, set(fresh([]api.Label{}, 5)), faults, api.ErrArg)
					wantErr(t, c, o, hushed(quiet(0, 5, []api.Matcher{}...), 0), faults, api.ErrArg)
				}
			}
		}
	}
}

// P1: rows that are long end, and are ErrArg; long rows of faults that may be are none.
func TestLongRows(t *testing.T) {
	c := small()
	o := keeping(54, 3, 26, row(4), hushes(4))
	const n = 1 << 16
	long := map[string]api.Outbox{
		"duties":   change(o, func(o *api.Outbox) { o.Duties = slices.Repeat(row(4), n) }),
		"hushes":   change(o, func(o *api.Outbox) { o.Hushes = slices.Repeat(hushes(4), n) }),
		"sectors":  change(o, func(o *api.Outbox) { o.Store.Disk.Sectors = slices.Repeat(o.Store.Disk.Sectors, n/16) }),
		"a sector": change(o, func(o *api.Outbox) { o.Store.Disk.Sectors[53] = strings.Repeat("\x01", n) }),
		"labels":   change(o, func(o *api.Outbox) { o.Duties[3].Labels = slices.Repeat(nth(3), n) }),
		"asked":    change(o, func(o *api.Outbox) { o.Hushes[3].Asked = slices.Repeat(o.Hushes[3].Asked, n) }),
		"a name":   change(o, func(o *api.Outbox) { o.Duties[3].Labels[0].Name = strings.Repeat("a", n) }),
	}
	for name, wrong := range long {
		if outbox.Right(c, wrong) {
			t.Fatalf("%s: may be", name)
		}
		for _, w := range writes() {
			wantErr(t, c, wrong, w.act, nil, api.ErrArg)
		}
	}
	wantNoBoot(t, "long", c, long["sectors"].Store.Disk, api.ErrArg)
	wantNoBoot(t, "long", c, long["a sector"].Store.Disk, api.ErrArg)
	for _, w := range writes() {
		got, why := w.do(c, o, slices.Repeat([]api.Fault{none}, n))
		want, whyWant := w.want(c, o, nil)
		wantOutbox(t, w.name, got, why, want, whyWant)
		wantErr(t, c, o, w.act, behindNone(n, api.Fault{K: -1}), api.ErrArg)
	}
	for _, a := range []act{set(fresh(slices.Repeat(ax(), n), 5)), drop(slices.Repeat(ax(), n)), drop(labels("a", strings.Repeat("x", n))), hushed(quiet(0, 5, slices.Repeat([]api.Matcher{asks(is, "a", "x")}, n)...), 0)} {
		if got, why := a.do(c, o, nil); why != api.ErrArg || !isSame(got, api.Outbox{}) {
			t.Fatalf("a long row: %s, %d", show(got), why)
		}
	}
}

// P1: no call panics, whatever it is given.
func TestNothingPanics(t *testing.T) {
	r := source()
	odd := []int{math.MinInt, math.MinInt + 1, -1, 0, 1, 2, 3, 16, 54, 128, 129, 250, 251, 1 << 32, last, last + 1, math.MaxInt}
	pick := func() int { return odd[r.IntN(len(odd))] }
	sectors := []string{"", strings.Repeat("\x00", 128), strings.Repeat("\xff", 128), sealed(1, 0, ""), sealed(250, 0, ""), sealed(5, 1, "a"), sealed(1, 1, put(goneRec(ax())))}
	for range 6000 {
		c := bases()[r.IntN(2)]
		if r.IntN(8) == 0 {
			c = changed(c, func(c *api.Config) { c.Routes[r.IntN(len(c.Routes))].Chain[0] = pick() })
		}
		o := keeping(54, 1+r.IntN(250), r.IntN(27), row(r.IntN(18)), hushes(r.IntN(10)))
		for range r.IntN(3) {
			o.Store.Disk.Sectors[r.IntN(54)] = sectors[r.IntN(len(sectors))]
		}
		d, h := owed(nth(r.IntN(20)), pick(), pick(), pick(), pick(), pick()), quiet(pick(), pick(), asks(pick(), "a", "x"))
		switch r.IntN(6) {
		case 0:
			o.Store.Gen, o.Store.Used, o.Store.Top = pick(), pick(), pick()
		case 1:
			o.Duties = append(o.Duties, d)
		case 2:
			o.Hushes = append(o.Hushes, h)
		case 3:
			o.Store.Down = true
		}
		if r.IntN(2) == 0 {
			d, h = fresh(nth(r.IntN(20)), 5), until(5000)
		}
		faults := []api.Fault{none, {Kind: pick(), K: pick()}}[:r.IntN(3)]
		outbox.Right(c, o)
		outbox.New(c, pick())
		outbox.Boot(c, o.Store.Disk)
		wantAct(t, c, o, set(d), faults)
		wantAct(t, c, o, drop(d.Labels), faults)
		wantAct(t, c, o, hushed(h, pick()), faults)
	}
}
