package outbox_test

import (
	"fmt"
	"math"
	"slices"
	"strings"
	"testing"

	"foghorn/api"
	"foghorn/code"
	"foghorn/outbox"
	"foghorn/store"
)

// P18.1: New of the sizes that may be: no duties, no hushes, and the store that store.New tells.
func TestNew(t *testing.T) {
	for _, c := range bases() {
		for n := 54; n <= 130; n += 2 {
			s, why := store.New(n)
			if why != api.OK {
				t.Fatalf("store.New(%d): %d", n, why)
			}
			o, why := outbox.New(c, n)
			wantOutbox(t, fmt.Sprint("New of ", n), o, why, api.Outbox{Store: s}, api.OK)
			wantOutbox(t, "what is new", o, why, api.Outbox{Store: logged(n, 1)}, api.OK)
			wantRight(t, c, o, true)
			wantBoot(t, c, o.Store.Disk, o)
		}
	}
}

// P18.1: New of sizes that may not be, those among them that a store may have.
func TestNewOfWrongSizes(t *testing.T) {
	wrong := []int{math.MinInt, math.MinInt + 54, -54, -1, 132, 133, 134, 1000, 1 << 32, 1<<32 + 54, math.MaxInt - 1, math.MaxInt}
	for n := range 54 {
		wrong = append(wrong, n)
	}
	for n := 55; n <= 131; n += 2 {
		wrong = append(wrong, n)
	}
	for _, c := range bases() {
		for _, n := range wrong {
			o, why := outbox.New(c, n)
			wantNothing(t, fmt.Sprint("New of ", n), o, why, api.ErrSize)
		}
	}
}

// wantNoBoot is an error of Boot, and nothing beside it.
func wantNoBoot(t *testing.T, what string, c api.Config, d api.Disk, want api.Errno) {
	t.Helper()
	o, why := outbox.Boot(c, d)
	wantNothing(t, "Boot of "+what, o, why, want)
}

// P18.1: Boot of disks that are too small, or have no log: a header that is right, and records, change nothing.
func TestBootOfNoDisks(t *testing.T) {
	for _, c := range bases() {
		for i, d := range noDisks() {
			wantNoBoot(t, fmt.Sprint("disk ", i), c, d, api.ErrArg)
			if len(d.Sectors) > 2 && len(d.Sectors[1]) == 128 {
				wantNoBoot(t, fmt.Sprint("disk with a header ", i), c, with(d, 1, sealed(1, 0, "")), api.ErrArg)
			}
		}
		for n := 10; n < 54; n += 2 {
			wantNoBoot(t, fmt.Sprint(n, " sectors"), c, logged(n, 1).Disk, api.ErrArg)
			wantNoBoot(t, fmt.Sprint(n, " sectors with a duty"), c, logged(n, 2, put(dutyRec(row(1)[0]))).Disk, api.ErrArg)
		}
		for _, n := range []int{53, 55, 129, 131, 132} {
			wantNoBoot(t, fmt.Sprint(n, " sectors with a header"), c, with(with(blank(n), 1, sealed(1, 0, "")), 0, sealed(2, 0, "")), api.ErrArg)
		}
	}
}

// P18.1: Boot of disks that have a log, but no header that is right.
func TestBootWithoutHeader(t *testing.T) {
	for _, c := range bases() {
		for _, n := range []int{54, 56, 130} {
			o := keeping(n, 7, 0, row(2), hushes(2))
			for _, text := range []string{strings.Repeat("\x00", 128), strings.Repeat("\xff", 128), sealed(8, 0, ""), sealed(7, 1, ""), sealed(7, 0, "a"), sealed(7, 0, "")[:126] + "\x00\x00"} {
				wantNoBoot(t, "a wrong header", c, with(o.Store.Disk, 1, text), api.ErrNone)
			}
			wantNoBoot(t, "bytes 0", c, blank(n), api.ErrNone)
		}
	}
}

// good are texts of records that may be done in any order.
func good() []string {
	return append(bytesOfAll(row(5), hushes(3)), put(goneRec(nth(1))), put(goneRec(labels("z", "never"))))
}

// P18.1: a text that is no record, at each place among others.
func TestBootOfNoRecord(t *testing.T) {
	one := put(dutyRec(row(1)[0]))
	bad := []string{"", "\x00", "\x04", "x", strings.Repeat("x", 96), one + "\x00", one[:len(one)-1], "\x02\x00", "\x02\x01\x01A\x00", put(hushRec(until(5))) + "x", "\xff\xff"}
	for _, c := range bases() {
		for _, text := range bad {
			if _, why := code.Get(text); why != api.ErrChar {
				t.Fatalf("%q is a record", text)
			}
			for at := range len(good()) + 1 {
				for _, gen := range []int{1, 250} {
					s := logged(54, gen, slices.Insert(good(), at, text)...)
					wantNoBoot(t, fmt.Sprintf("%q at %d", text, at), c, s.Disk, api.ErrChar)
				}
			}
		}
	}
}

// P18.1: a duty that may be in a record, but not with the config, at each place among others; also if it is gone, or another one is in its place, later on.
func TestBootOfNoDuty(t *testing.T) {
	for _, c := range bases() {
		for _, no := range noDuties(c, 9) {
			text, why := code.Put(dutyRec(no))
			if why != api.OK {
				continue
			}
			for at := range len(good()) + 1 {
				l := slices.Insert(good(), at, text)
				wantNoBoot(t, fmt.Sprintf("%+v at %d", no, at), c, logged(54, 1, l...).Disk, api.ErrState)
				l = append(l, put(goneRec(no.Labels)))
				wantNoBoot(t, fmt.Sprintf("%+v at %d, that is gone", no, at), c, logged(54, 1, l...).Disk, api.ErrState)
				l = append(l, put(dutyRec(fresh(no.Labels, 5))))
				wantNoBoot(t, fmt.Sprintf("%+v at %d, and a right one", no, at), c, logged(54, 1, l...).Disk, api.ErrState)
			}
		}
	}
	for _, no := range []api.Duty{owed(nth(9), 1, 0, 0, 5, sNew), owed(nth(9), 0, 1, 0, 5, sNew), owed(nth(9), 0, 0, 2, 5, sNew)} {
		s := logged(54, 1, put(dutyRec(no)))
		wantNoBoot(t, fmt.Sprintf("%+v", no), small(), s.Disk, api.ErrState)
		if no.Place == 0 && no.Route == 0 {
			wantBoot(t, full(), s.Disk, api.Outbox{Store: s, Duties: []api.Duty{no}})
		}
	}
}

// P18.1: seventeen duties, and nine hushes, whatever would become of them behind that.
func TestBootOfTooMany(t *testing.T) {
	for _, c := range bases() {
		for _, n := range []int{54, 130} {
			l := bytesOfAll(row(17), nil)
			wantNoBoot(t, "17 duties", c, logged(n, 1, l...).Disk, api.ErrState)
			slices.Reverse(l)
			wantNoBoot(t, "17 duties, in no order", c, logged(n, 1, l...).Disk, api.ErrState)
			wantNoBoot(t, "17 duties, one of which is gone then", c, logged(n, 1, append(l, put(goneRec(nth(3))))...).Disk, api.ErrState)
			l = bytesOfAll(row(16), hushes(8))
			wantNoBoot(t, "17 duties and hushes", c, logged(n, 1, append(l, put(dutyRec(row(17)[16])))...).Disk, api.ErrState)
			wantNoBoot(t, "nine hushes and duties", c, logged(n, 1, append(l, put(hushRec(until(5))))...).Disk, api.ErrState)
			l = bytesOfAll(nil, hushes(9))
			wantNoBoot(t, "nine hushes", c, logged(n, 1, l...).Disk, api.ErrState)
			l = slices.Repeat(bytesOfAll(nil, hushes(1)), 9)
			wantNoBoot(t, "one hush nine times", c, logged(n, 1, l...).Disk, api.ErrState)
		}
	}
}

// P18.1: a seventeenth duty of Labels that are there, or behind one that is gone, is none too many.
func TestBootOfNotTooMany(t *testing.T) {
	for _, c := range bases() {
		for i := range 16 {
			duties := row(16)
			l := bytesOfAll(duties, nil)
			again := owed(nth(i), 0, 0, 1, 77, sDone)
			duties[i] = again
			s := logged(54, 1, append(slices.Clone(l), put(dutyRec(again)))...)
			wantBoot(t, c, s.Disk, api.Outbox{Store: s, Duties: duties})

			other := row(17)[16]
			s = logged(54, 1, append(slices.Clone(l), put(goneRec(nth(i))), put(dutyRec(other)))...)
			wantBoot(t, c, s.Disk, api.Outbox{Store: s, Duties: append(slices.Delete(row(16), i, i+1), other)})
			s = logged(54, 1, append(slices.Clone(l), put(dutyRec(other)), put(goneRec(nth(i))))...)
			wantNoBoot(t, "one that is gone too late", c, s.Disk, api.ErrState)
		}
		s := logged(54, 1, slices.Repeat(bytesOfAll(row(1), nil), 26)...)
		wantBoot(t, c, s.Disk, api.Outbox{Store: s, Duties: row(1)})
	}
}

// P18.1: which error there is is told by the first record that is wrong.
func TestBootByOrder(t *testing.T) {
	c := small()
	bad := "\x04"
	no := put(dutyRec(owed(nth(9), 1, 0, 0, 5, sNew)))
	over := append(bytesOfAll(nil, hushes(8)), put(hushRec(until(5))))
	many := bytesOfAll(row(17), nil)
	for _, x := range []struct {
		want api.Errno
		l    []string
	}{
		{api.ErrChar, []string{bad, no}},
		{api.ErrState, []string{no, bad}},
		{api.ErrChar, append([]string{bad}, over...)},
		{api.ErrState, append(slices.Clone(over), bad)},
		{api.ErrChar, slices.Insert(slices.Clone(over), 8, bad)},
		{api.ErrChar, append([]string{bad}, many...)},
		{api.ErrState, append(slices.Clone(many), bad)},
		{api.ErrChar, slices.Insert(slices.Clone(many), 16, bad)},
		{api.ErrChar, append(good(), bad, no)},
		{api.ErrState, append(good(), no, bad)},
	} {
		wantNoBoot(t, fmt.Sprintf("%q", x.l), c, logged(130, 1, x.l...).Disk, x.want)
	}
}

// P18.1: a record that a duty is gone of which there is none changes nothing.
func TestBootOfGone(t *testing.T) {
	for _, c := range bases() {
		duties, some := row(5), hushes(2)
		for at := range 8 {
			for _, l := range [][]api.Label{labels("z", "never"), labels("a", ""), labels("a", "00", "b", "y"), labels("a", "00", "b", "x", "c", ""), labels("b", "x"), nth(17)} {
				s := logged(54, 1, slices.Insert(bytesOfAll(duties, some), at, put(goneRec(l)))...)
				wantBoot(t, c, s.Disk, api.Outbox{Store: s, Duties: duties, Hushes: some})
			}
		}
		for i := range 5 {
			s := logged(54, 1, append(bytesOfAll(duties, some), put(goneRec(nth(i))), put(goneRec(nth(i))))...)
			wantBoot(t, c, s.Disk, api.Outbox{Store: s, Duties: slices.Delete(row(5), i, i+1), Hushes: some})
			s = logged(54, 1, append([]string{put(goneRec(nth(i)))}, bytesOfAll(duties, some)...)...)
			wantBoot(t, c, s.Disk, api.Outbox{Store: s, Duties: duties, Hushes: some})
		}
	}
}

// P18.1: duties come by their Labels, hushes as their records do, in all orders of some of both.
func TestBootOfAllOrders(t *testing.T) {
	duties, some := row(3), hushes(2)
	all := []api.Rec{dutyRec(duties[0]), dutyRec(duties[1]), dutyRec(duties[2]), hushRec(some[0]), hushRec(some[1])}
	orders := 0
	var visit func(l []api.Rec, left []api.Rec)
	visit = func(l []api.Rec, left []api.Rec) {
		if len(left) > 0 {
			for i := range left {
				visit(append(slices.Clone(l), left[i]), slices.Delete(slices.Clone(left), i, i+1))
			}
			return
		}
		orders++
		var texts []string
		var want api.Outbox
		for _, r := range l {
			texts = append(texts, put(r))
			if r.Kind == rHush {
				want.Hushes = append(want.Hushes, r.Hush)
			}
		}
		want.Duties = duties
		want.Store = logged(54, 2, texts...)
		wantBoot(t, small(), want.Store.Disk, want)
	}
	visit(nil, all)
	if orders != 120 {
		t.Fatalf("%d orders", orders)
	}
}

// P18.1: Gen, Used and Top are those that store.Boot tells: of both areas, of an older generation beside, of a byte that a turn left, of sectors that are no records behind.
func TestBootStore(t *testing.T) {
	c := full()
	for _, n := range []int{54, 130} {
		for gen := 1; gen <= 250; gen++ {
			o := keeping(n, gen, 0, row(4), hushes(2))
			wantBoot(t, c, o.Store.Disk, o)
			if gen < 240 {
				d := with(o.Store.Disk, place(n, gen+1, 2), sealed(gen+7, 3, "left"))
				d = with(d, place(n, gen, 8), sealed(gen, 8, put(dutyRec(fresh(ax(), 5)))))
				o.Store.Disk, o.Store.Top = d, gen+7
				wantBoot(t, c, d, o)
			}
		}
	}
	older, newer := keeping(54, 4, 0, row(3), nil), keeping(54, 5, 0, row(2), hushes(1))
	both := slices.Clone(newer.Store.Disk.Sectors)
	both[0] = older.Store.Disk.Sectors[0]
	copy(both[2:28], older.Store.Disk.Sectors[2:28])
	newer.Store.Disk.Sectors = both
	wantBoot(t, c, newer.Store.Disk, newer)
	newer.Store.Disk = with(newer.Store.Disk, 1, sealed(5, 0, "")[:100]+strings.Repeat("\x00", 28))
	older.Store.Disk, older.Store.Top = newer.Store.Disk, 5
	wantBoot(t, c, newer.Store.Disk, older)
}

// P18.1: records by chance, done one by one as the chapter says.
func TestBootByChance(t *testing.T) {
	r := source()
	errors := map[api.Errno]int{}
	for range 1200 {
		c := bases()[r.IntN(2)]
		var l []string
		var want api.Outbox
		why := api.OK
		for range r.IntN(64) {
			one := goneRec(nth(r.IntN(20)))
			switch r.IntN(12) {
			case 0:
				one = hushRec(quiet(r.IntN(5), 5+r.IntN(5), asks(is, "a", "x")))
			case 1, 2, 3, 4, 5:
				one = dutyRec(owed(nth(r.IntN(20)), 0, 0, r.IntN(2), r.IntN(1000), 1+r.IntN(3)))
			case 6:
				if r.IntN(20) == 0 {
					one = dutyRec(owed(nth(r.IntN(20)), 3, 3, 0, 5, sNew))
				}
			}
			l = append(l, put(one))
			if why == api.OK {
				want = done(want, one)
				if len(want.Duties) > 16 || len(want.Hushes) > 8 || one.Kind == rDuty && one.Duty.Route == 3 {
					want, why = api.Outbox{}, api.ErrState
				}
			}
		}
		s := logged(130, 1+r.IntN(250), l...)
		if why == api.OK {
			want.Store = s
		}
		errors[why]++
		got, gotWhy := outbox.Boot(c, s.Disk)
		wantOutbox(t, fmt.Sprintf("Boot of %q", l), got, gotWhy, want, why)
	}
	if errors[api.OK] < 300 || errors[api.ErrState] < 100 {
		t.Errorf("errors by their numbers: %v", errors)
	}
}
