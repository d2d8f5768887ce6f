package outbox_test

import (
	"fmt"
	"slices"
	"testing"

	"foghorn/api"
	"foghorn/outbox"
	"foghorn/seal"
)

// write is one call whose record is known, with the duties and hushes that it comes to.
type write struct {
	act
	rec  api.Rec
	then api.Outbox
}

// writes are calls of an outbox of row(4) and hushes(4), none of which is over then.
func writes() []write {
	first := owed(nth(2), 0, 0, 1, 9, sTold)
	set1 := row(4)
	set1[2] = first
	h := quiet(3, 2000, asks(is, "q", ""))
	return []write{
		{set(row(5)[4]), dutyRec(row(5)[4]), api.Outbox{Duties: row(5), Hushes: hushes(4)}},
		{set(first), dutyRec(first), api.Outbox{Duties: set1, Hushes: hushes(4)}},
		{drop(nth(1)), goneRec(nth(1)), api.Outbox{Duties: without(row(4), 1), Hushes: hushes(4)}},
		{hushed(h, 1000), hushRec(h), api.Outbox{Duties: row(4), Hushes: append(hushes(4), h)}},
	}
}

// quietBehind is a call of the same one that turns it, for the first hush written is over, though its log may have room.
func quietBehind() write {
	h := quiet(3, 2000, asks(is, "q", ""))
	return write{hushed(h, 1001), hushRec(h), api.Outbox{Duties: row(4), Hushes: append(hushes(4)[:3:3], h)}}
}

// payloads of the sectors from a place on, as they are sealed: each one's generation and number are the right ones.
func payloads(t *testing.T, d api.Disk, gen, n int) []string {
	t.Helper()
	var l []string
	for i := range n {
		g, no, payload, why := seal.Open(d.Sectors[place(len(d.Sectors), gen, i)])
		if why != api.OK || g != gen || no != i+1 {
			t.Fatalf("record %d of generation %d: %d, %d, %q, %d", i, gen, g, no, payload, why)
		}
		l = append(l, payload)
	}
	return l
}

// P18.2: where the log has room a record is appended, in the next sector, and nothing else on the disk is changed; the first fault alone matters.
func TestAppend(t *testing.T) {
	c := small()
	for _, n := range []int{54, 56, 130} {
		for used := 8; used < n/2-1; used++ {
			o := keeping(n, 3, used, row(4), hushes(4))
			for _, w := range writes() {
				want := w.then
				want.Store = o.Store
				want.Store.Disk = with(o.Store.Disk, place(n, 3, used), sealed(3, used+1, put(w.rec)))
				want.Store.Used = used + 1
				for _, faults := range [][]api.Fault{nil, {}, {none}, {{K: 128}}, {none, fail}, {none, crash(0)}, {none, crash(64), fail}, {none, none, crash(128)}} {
					got, why := w.do(c, o, faults)
					wantOutbox(t, w.name, got, why, want, api.OK)
				}
				wantBoot(t, c, want.Store.Disk, want)
			}
		}
	}
}

// P18.2: the bytes of the records, written out.
func TestBytesOnTheDisk(t *testing.T) {
	c := small()
	o := empty(t, c, 54)
	o = wantOK(t, c, o, set(owed(labels("a", "x"), 0, 0, 1, 258, sTold)))
	o = wantOK(t, c, o, hushed(quiet(1, 5, asks(has, "z", "")), 0))
	o = wantOK(t, c, o, drop(labels("a", "x")))
	want := []string{
		"\x01\x00\x00\x01\x02\x00\x00\x00\x00\x01\x02\x01\x01a\x01x",
		"\x03\x00\x00\x00\x00\x00\x01\x00\x00\x00\x00\x00\x05\x01\x03\x01z\x00",
		"\x02\x01\x01a\x01x",
	}
	if got := payloads(t, o.Store.Disk, 1, 3); !slices.Equal(got, want) || o.Store.Used != 3 || o.Store.Gen != 1 || o.Store.Top != 1 {
		t.Fatalf("%q, %s", got, show(o))
	}
}

// P18.2: where the log has no room the store is turned to all duties, in order, and all hushes, in order, as they are then; Used is how many these are.
func TestTurn(t *testing.T) {
	c := small()
	for _, n := range []int{54, 56, 130} {
		for _, gen := range []int{1, 2, 100, 249} {
			o := keeping(n, gen, n/2-1, row(4), hushes(4))
			for _, w := range append(writes(), quietBehind()) {
				l := bytesOfAll(w.then.Duties, w.then.Hushes)
				for _, faults := range [][]api.Fault{nil, {}, {none}, slices.Repeat([]api.Fault{none}, 100), behindNone(len(l)+1, fail), behindNone(len(l)+1, crash(0)), behindNone(len(l)+1, crash(128))} {
					got, why := w.do(c, o, faults)
					if why != api.OK || got.Store.Gen != gen+1 || got.Store.Top != gen+1 || got.Store.Used != len(l) || got.Store.Down || !hasSame(got, w.then) {
						t.Fatalf("%s: %s, %d", w.name, show(got), why)
					}
					if texts := payloads(t, got.Store.Disk, gen+1, len(l)); !slices.Equal(texts, l) {
						t.Fatalf("%s: %q, want %q", w.name, texts, l)
					}
					wantBoot(t, c, got.Store.Disk, got)
				}
			}
		}
	}
}

// P18.2: a turn that a hush that is over asks for is one with room in the log, too, with all the faults.
func TestTurnWithRoom(t *testing.T) {
	c := small()
	w := quietBehind()
	for used := 8; used < 27; used++ {
		o := keeping(54, 3, used, row(4), hushes(4))
		got := wantOK(t, c, o, w.act)
		if got.Store.Gen != 4 || got.Store.Used != 8 || !hasSame(got, w.then) {
			t.Fatalf("%s: %s", w.name, show(got))
		}
		wantBoot(t, c, got.Store.Disk, got)
	}
}

// P18.2: a turn of as many duties and hushes as there may be has room on the least disk.
func TestTurnOfMost(t *testing.T) {
	c := full()
	o := keeping(54, 3, 26, row(16), hushes(7))
	got := wantOK(t, c, o, hushed(until(2000), 0))
	if got.Store.Gen != 4 || got.Store.Used != 24 || len(got.Duties) != 16 || len(got.Hushes) != 8 {
		t.Fatalf("%s", show(got))
	}
	wantBoot(t, c, got.Store.Disk, got)
	o = keeping(54, 3, 26, row(15), hushes(8))
	got = wantOK(t, c, o, set(row(16)[15]))
	if got.Store.Gen != 4 || got.Store.Used != 24 || len(got.Duties) != 16 || len(got.Hushes) != 8 {
		t.Fatalf("%s", show(got))
	}
	wantBoot(t, c, got.Store.Disk, got)
	got = wantOK(t, c, keeping(54, 3, 26, row(1), nil), drop(nth(0)))
	if got.Store.Gen != 4 || got.Store.Used != 0 || len(got.Duties) != 0 || len(got.Hushes) != 0 {
		t.Fatalf("%s", show(got))
	}
	wantBoot(t, c, got.Store.Disk, got)
}

// P18.2: the least disk, whose log is full again and again, by each of the three calls; each generation is one more, till there is none.
func TestFullAgainAndAgain(t *testing.T) {
	c := small()
	for kind := range 4 {
		o := empty(t, c, 54)
		for i := range 10 {
			o = wantOK(t, c, o, set(row(10)[i]))
		}
		o = wantOK(t, c, o, hushed(quiet(0, 1<<20, asks(is, "a", "x")), 0))
		gen, turns := 1, 0
		for round := range 2000 {
			a := set(owed(nth(round%10), 0, 0, 1, round, sTold))
			switch {
			case kind == 1 && round%2 == 0:
				a = drop(nth(4))
			case kind == 1:
				a = set(row(10)[4])
			case kind == 2 && round%5 == 4:
				a = hushed(quiet(0, round+3, asks(is, "a", "x")), round)
			case kind == 3:
				a = hushed(quiet(0, round+7, asks(is, "a", "x")), round)
			}
			got, why := wantAct(t, c, o, a, nil)
			if why == api.ErrFull && o.Store.Top == 250 {
				break
			}
			if why != api.OK {
				t.Fatalf("round %d: %s: %d", round, a.name, why)
			}
			if got.Store.Gen != gen {
				turns++
				gen++
			}
			if got.Store.Gen != gen || got.Store.Top != gen || turns == gen {
				t.Fatalf("round %d: %s", round, show(got))
			}
			wantBoot(t, c, got.Store.Disk, got)
			o = got
		}
		if turns < 80 || turns > 249 {
			t.Fatalf("%d turns", turns)
		}
	}
}

// P18.2: with generations at their end a log without room is ErrFull, and nothing beside it; one with room goes on.
func TestLastGeneration(t *testing.T) {
	c := small()
	for _, x := range []struct{ gen, top, to int }{{250, 250, 0}, {249, 250, 0}, {248, 249, 0}, {249, 249, 250}, {248, 248, 249}, {247, 248, 250}, {1, 250, 0}, {2, 249, 0}, {1, 249, 250}, {2, 248, 249}} {
		for _, used := range []int{8, 25, 26} {
			o := keeping(54, x.gen, used, row(4), hushes(4))
			o.Store.Top = x.top
			for _, w := range append(writes(), quietBehind()) {
				isTurn := used == 26 || w.name == quietBehind().name
				for _, faults := range [][]api.Fault{nil, {none}, {none, fail}} {
					switch {
					case !isTurn:
						got, why := wantAct(t, c, o, w.act, faults)
						if why != api.OK || got.Store.Gen != x.gen || got.Store.Top != x.top || got.Store.Used != used+1 || !hasSame(got, w.then) {
							t.Fatalf("%s: %s, %d", w.name, show(got), why)
						}
					case x.to == 0:
						wantErr(t, c, o, w.act, faults, api.ErrFull)
					case len(faults) < 2:
						got, why := wantAct(t, c, o, w.act, faults)
						if why != api.OK || got.Store.Gen != x.to || got.Store.Top != x.to || !hasSame(got, w.then) {
							t.Fatalf("%s: %s, %d", w.name, show(got), why)
						}
					}
				}
				if isTurn && x.to == 0 {
					for _, f := range []api.Fault{fail, crash(0), crash(64)} {
						wantErr(t, c, o, w.act, []api.Fault{f}, api.ErrFull)
					}
				}
			}
		}
	}
}

// wantStopped fails, unless the call is stopped by its fault: with what it left of the disk, duties and hushes are as they were.
func wantStopped(t *testing.T, c api.Config, o api.Outbox, a act, faults []api.Fault, want api.Errno, d api.Disk, top int) {
	t.Helper()
	got, why := a.do(c, o, faults)
	then := o
	then.Store.Disk, then.Store.Top, then.Store.Down = d, top, want == api.ErrDown
	wantOutbox(t, fmt.Sprintf("%s with %+v", a.name, faults), got, why, then, want)
	byChapter, whyByChapter := a.want(c, o, faults)
	wantOutbox(t, "the chapter", byChapter, whyByChapter, then, want)
	if want == api.ErrDown {
		wantErr(t, c, got, a, nil, api.ErrDown)
	}
}

// torn is the disk when the power goes behind k bytes of a text.
func torn(d api.Disk, at int, text string, k int) api.Disk {
	return with(d, at, text[:k]+d.Sectors[at][k:])
}

// P18.2: the one write of an append fails, or the power goes at it.
func TestAppendThatIsStopped(t *testing.T) {
	c := small()
	for _, n := range []int{54, 130} {
		for _, used := range []int{8, 20, n/2 - 2} {
			for _, gen := range []int{3, 6} {
				o := keeping(n, gen, used, row(4), hushes(4))
				o.Store.Disk = with(o.Store.Disk, place(n, gen, used), sealed(1, used+1, "old"))
				o.Store.Top = 17
				for _, w := range writes() {
					text := sealed(gen, used+1, put(w.rec))
					for _, k := range []int{0, 9, 64, 127, 128} {
						for _, behind := range [][]api.Fault{nil, {none}, {fail}, {crash(0)}} {
							wantStopped(t, c, o, w.act, append([]api.Fault{{Kind: 1, K: k}}, behind...), api.ErrFault, o.Store.Disk, 17)
							wantStopped(t, c, o, w.act, append([]api.Fault{crash(k)}, behind...), api.ErrDown, torn(o.Store.Disk, place(n, gen, used), text, k), 17)
						}
					}
				}
			}
		}
	}
}

// P18.2: each write of a turn fails, or the power goes at it: those ahead of it are made, and Top is the new one.
func TestTurnThatIsStopped(t *testing.T) {
	c := small()
	for _, gen := range []int{3, 6} {
		for _, used := range []int{8, 26} {
			o := keeping(54, gen, used, row(4), hushes(4))
			for i, w := range append(writes(), quietBehind()) {
				if used < 26 && i < len(writes()) {
					continue
				}
				d := o.Store.Disk
				l := bytesOfAll(w.then.Duties, w.then.Hushes)
				for number := range len(l) + 1 {
					at, text := (gen+1)%2, sealed(gen+1, 0, "")
					if number < len(l) {
						at, text = place(54, gen+1, number), sealed(gen+1, number+1, l[number])
					}
					for _, k := range []int{0, 9, 64, 127, 128} {
						for _, behind := range []api.Fault{none, fail, crash(0)} {
							wantStopped(t, c, o, w.act, append(behindNone(number, api.Fault{Kind: 1, K: k}), behind), api.ErrFault, d, gen+1)
							wantStopped(t, c, o, w.act, append(behindNone(number, crash(k)), behind), api.ErrDown, torn(d, at, text, k), gen+1)
						}
					}
					d = with(d, at, text)
				}
			}
		}
	}
}

// P18.2, R2: what is told beside ErrFault goes on: the same call once more comes to its end.
func TestOnceMoreBehindAFault(t *testing.T) {
	c := small()
	for _, used := range []int{8, 25, 26} {
		o := keeping(54, 3, used, row(4), hushes(4))
		for _, w := range append(writes(), quietBehind()) {
			for number := range 10 {
				got, why := wantAct(t, c, o, w.act, behindNone(number, fail))
				if why == api.OK {
					continue
				}
				if why != api.ErrFault || !outbox.Right(c, got) || !hasSame(got, o) {
					t.Fatalf("%s: %s, %d", w.name, show(got), why)
				}
				for _, other := range append(writes(), quietBehind()) {
					next := wantOK(t, c, got, other.act)
					if !hasSame(next, other.then) {
						t.Fatalf("%s: %s", other.name, show(next))
					}
					booted, why := outbox.Boot(c, next.Store.Disk)
					if why != api.OK || !hasSame(booted, next) || booted.Store.Gen != next.Store.Gen || booted.Store.Used != next.Store.Used {
						t.Fatalf("Boot: %s, %d, want %s", show(booted), why, show(next))
					}
				}
			}
		}
	}
}
