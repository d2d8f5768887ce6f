package outbox_test

import (
	"fmt"
	"math/rand/v2"
	"testing"

	"foghorn/api"
	"foghorn/outbox"
)

// life is an outbox that goes on from call to call, and whether it ever met a fault.
type life struct {
	o       api.Outbox
	faulted bool
}

// booted is what Boot tells of the disk of an outbox.
func booted(t *testing.T, c api.Config, o api.Outbox) api.Outbox {
	t.Helper()
	got, why := outbox.Boot(c, o.Store.Disk)
	if why != api.OK || got.Store.Down || !outbox.Right(c, got) {
		t.Fatalf("Boot of %s: %s, %d", show(o), show(got), why)
	}
	return got
}

// wantFound fails, unless Boot tells just what the life has; the store, too, if it never met a fault.
func wantFound(t *testing.T, c api.Config, b life) {
	t.Helper()
	got := booted(t, c, b.o)
	if !hasSame(got, b.o) || !b.faulted && !isSameStore(got.Store, b.o.Store) {
		t.Fatalf("Boot tells %s, want %s", show(got), show(b.o))
	}
}

// after is the life behind one call more; where the power went, behind the boot, which tells what was had, or what would have been had.
func after(t *testing.T, c api.Config, b life, a act, faults []api.Fault) life {
	t.Helper()
	got, why := wantAct(t, c, b.o, a, faults)
	switch why {
	case api.OK:
		b.o = got
	case api.ErrFault:
		if !hasSame(got, b.o) {
			t.Fatalf("%s: %s, want what was had, %s", a.name, show(got), show(b.o))
		}
		b = life{got, true}
	case api.ErrDown:
		would, why := a.want(c, b.o, nil)
		if why != api.OK || !got.Store.Down || !hasSame(got, b.o) {
			t.Fatalf("%s: %s, and without a fault %d", a.name, show(got), why)
		}
		found := booted(t, c, got)
		if !hasSame(found, b.o) && !hasSame(found, would) {
			t.Fatalf("%s: Boot tells %s, want %s or %s", a.name, show(found), show(b.o), show(would))
		}
		b = life{found, true}
	}
	wantFound(t, c, b)
	return b
}

// starts are outboxes of row(4) and hushes(4), over nothing, over an older generation, and over what lies about.
func starts(used int) []api.Outbox {
	bare := keeping(54, 3, used, row(4), hushes(4))
	older, mixed := bare, bare
	for i := range 26 {
		text := sealed(2, i+1, put(dutyRec(fresh(labels("old", fmt.Sprint(i)), 5))))
		older.Store.Disk = with(older.Store.Disk, place(54, 2, i), text)
		mixed.Store.Disk = with(mixed.Store.Disk, place(54, 2, i), text[:60]+sealed(7, i+1, "left")[60:])
		if i >= used {
			text = sealed(1, i+1, put(dutyRec(fresh(labels("older", fmt.Sprint(i)), 5))))
			older.Store.Disk = with(older.Store.Disk, place(54, 3, i), text)
			mixed.Store.Disk = with(mixed.Store.Disk, place(54, 3, i), sealed(9, i+1, "left")[:50]+text[50:])
		}
	}
	older.Store.Disk = with(older.Store.Disk, 0, sealed(2, 0, ""))
	mixed.Store.Disk = with(mixed.Store.Disk, 0, sealed(8, 0, "")[:99]+sealed(2, 0, "")[99:])
	mixed.Store.Top = topOf(mixed)
	return []api.Outbox{bare, older, mixed}
}

// topOf is the greatest first byte on the disk.
func topOf(o api.Outbox) int {
	top := o.Store.Gen
	for _, text := range o.Store.Disk.Sectors {
		top = max(top, int(text[0]))
	}
	return top
}

// isEdge is where a tear matters most: at both ends of a sector, at the ends of a payload and of the sum, and at some places between.
func isEdge(k int) bool {
	return k < 4 || k > 124 || k%32 == 0 || k == 99 || k == 103
}

// P18.3, P2: the power goes behind each byte of an append: what is found is what was had, or, from the last bytes on, what would have been had; then a call more goes on from there.
func TestPowerGoesInAnAppend(t *testing.T) {
	t.Parallel()
	c := small()
	for _, used := range []int{8, 25} {
		for _, o := range starts(used) {
			for _, w := range writes() {
				for k := range 129 {
					b := after(t, c, life{o, false}, w.act, []api.Fault{crash(k), fail})
					if k == 128 && !hasSame(b.o, w.then) || k <= 126 && !hasSame(b.o, o) {
						t.Fatalf("%s, torn at %d: %s", w.name, k, show(b.o))
					}
					if !isEdge(k) {
						continue
					}
					for _, a := range []act{set(row(6)[5]), drop(nth(3)), hushed(until(3000), 1001)} {
						after(t, c, b, a, nil)
						after(t, c, b, a, []api.Fault{crash(k)})
					}
				}
			}
		}
	}
}

// P18.3, P2: the power goes behind each byte of each write of a turn: what is found is what was had, or, from the last bytes of the last write on, what would have been had.
func TestPowerGoesInATurn(t *testing.T) {
	t.Parallel()
	c := small()
	for _, used := range []int{8, 26} {
		for at, o := range starts(used) {
			for i, w := range append(writes(), quietBehind()) {
				if used < 26 && i < len(writes()) {
					continue
				}
				last := len(w.then.Duties) + len(w.then.Hushes)
				for number := range last + 1 {
					for k := range 129 {
						if at > 0 && number < last && !isEdge(k) {
							continue
						}
						b := after(t, c, life{o, false}, w.act, append(behindNone(number, crash(k)), fail))
						if number == last && k == 128 && !hasSame(b.o, w.then) || (number < last || k <= 125) && !hasSame(b.o, o) {
							t.Fatalf("%s, torn at write %d, byte %d: %s", w.name, number, k, show(b.o))
						}
						if number == last || isEdge(k) {
							b = after(t, c, b, set(row(6)[5]), nil)
							after(t, c, b, hushed(until(3000), 1003), behindNone(number, crash(k)))
						}
					}
				}
			}
		}
	}
}

// call is a call with its faults.
type call struct {
	act
	faults []api.Fault
}

// fewCalls are of each kind, that come to an end or don't, with faults of each kind at the first write or a later one.
func fewCalls() []call {
	var l []call
	for _, a := range []act{set(fresh(nth(1), 3)), set(owed(nth(20), 0, 0, 1, 5, sDone)), drop(nth(1)), hushed(until(2000), 5), hushed(until(2500), 1002)} {
		l = append(l, call{a, nil})
		for _, f := range []api.Fault{fail, crash(0), crash(64), crash(128)} {
			l = append(l, call{a, []api.Fault{f}})
		}
		l = append(l, call{a, behindNone(2, fail)}, call{a, behindNone(2, crash(128))})
	}
	return l
}

// P18.3, P2: all rows of three calls, of a log that is new, of one that is full behind two of them, and of one that is full; the first two with all their faults, the last one without, or with the power going midway.
func TestAllRowsOfThree(t *testing.T) {
	t.Parallel()
	c := small()
	for _, used := range []int{0, 24, 26} {
		start := life{o: keeping(54, 3, used, row(2), hushes(2))}
		if used == 0 {
			start.o = empty(t, c, 54)
		}
		for _, one := range fewCalls() {
			first := after(t, c, start, one.act, one.faults)
			for _, two := range fewCalls() {
				second := after(t, c, first, two.act, two.faults)
				for _, three := range fewCalls() {
					if len(three.faults) > 0 && three.faults[0] != crash(64) {
						continue
					}
					third := after(t, c, second, three.act, three.faults)
					if third.o.Store.Gen < second.o.Store.Gen || third.o.Store.Top < third.o.Store.Gen {
						t.Fatalf("%s, %s, %s: %s", one.name, two.name, three.name, show(third.o))
					}
				}
			}
		}
	}
}

// someFaults are none at all, or one of each kind behind some writes, or a row of them.
func someFaults(r *rand.Rand) []api.Fault {
	kinds := []api.Fault{none, fail, crash(r.IntN(129)), crash(120 + r.IntN(9)), crash(128)}
	switch r.IntN(4) {
	case 0:
		return behindNone(r.IntN(26), kinds[r.IntN(5)])
	case 1:
		return []api.Fault{kinds[r.IntN(5)], kinds[r.IntN(5)], kinds[r.IntN(5)]}
	}
	return nil
}

// someAct is one by chance; times go by, so that hushes end.
func someAct(r *rand.Rand, c api.Config, now int) act {
	switch r.IntN(8) {
	case 0, 1, 2, 3:
		route := r.IntN(len(c.Routes))
		place := r.IntN(len(c.Routes[route].Chain))
		who := c.Receivers[c.Routes[route].Chain[place]]
		return set(owed(nth(r.IntN(20)), route, place, r.IntN(who.Tries), now+r.IntN(1000), 1+r.IntN(3)))
	case 4, 5:
		return drop(nth(r.IntN(20)))
	}
	from := now + r.IntN(5) - 2
	return hushed(quiet(max(from, 0), max(from, 0)+1+r.IntN(1+r.IntN(60)), asks(r.IntN(3), "a", fmt.Sprint(r.IntN(9)))), now)
}

// P18.3, P2: long lives by chance with faults of all kinds: what Boot tells is what is had, from the first call to the last.
func TestLongLives(t *testing.T) {
	t.Parallel()
	r := source()
	whys := map[api.Errno]int{}
	for round := range 40 {
		c := bases()[round%2]
		b := life{o: empty(t, c, []int{54, 54, 56, 130}[round%4])}
		for now := range 400 {
			a, faults := someAct(r, c, now), someFaults(r)
			_, why := a.want(c, b.o, faults)
			whys[why]++
			b = after(t, c, b, a, faults)
		}
	}
	for _, why := range []api.Errno{api.OK, api.ErrRange, api.ErrNone, api.ErrFull, api.ErrFault, api.ErrDown} {
		if whys[why] < 50 {
			t.Errorf("errors by their numbers: %v", whys)
		}
	}
}

// P18.3: without a fault a boot changes nothing at all: the store that is found is the one that was.
func TestLivesWithoutFaults(t *testing.T) {
	t.Parallel()
	r := source()
	for round := range 8 {
		c := bases()[round%2]
		b := life{o: empty(t, c, []int{54, 130}[round/2%2])}
		for now := range 400 {
			b = after(t, c, b, someAct(r, c, now), nil)
			if b.faulted {
				t.Fatal("a fault that nobody made")
			}
			if now%3 == 0 {
				b.o = booted(t, c, b.o)
			}
		}
	}
}
