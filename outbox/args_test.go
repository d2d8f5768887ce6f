package outbox_test

import (
	"slices"
	"testing"

	"foghorn/api"
)

// rightActs come to an end with an outbox of row(3) and hushes(3).
func rightActs() []act {
	return []act{set(row(4)[3]), set(fresh(nth(1), 7)), drop(nth(2)), hushed(until(5), 0), hushed(until(2000), 1002)}
}

// stoppedActs are of right arguments, and yet stopped: each tells its own error of an outbox of row(16) and hushes(8).
func stoppedActs() []act {
	return []act{set(row(17)[16]), drop(labels("z", "never")), drop(labels("a", "")), hushed(until(5), 5), hushed(until(5), 6), hushed(until(5), 0)}
}

// P18.2: ErrArg of each outbox that may not be, whatever else is handed, also if the store is down.
func TestActsOfNoOutboxes(t *testing.T) {
	for _, c := range bases() {
		for _, o := range noOutboxes(c) {
			for _, a := range slices.Concat(rightActs(), stoppedActs(), []act{set(api.Duty{}), drop(nil), hushed(api.Hush{}, -1)}) {
				for _, faults := range [][]api.Fault{nil, {fail}, {crash(9)}, {{Kind: 3}}} {
					wantErr(t, c, o, a, faults, api.ErrArg)
					wantErr(t, c, down(o), a, faults, api.ErrArg)
				}
			}
		}
	}
}

// rowsWith have a fault first, last, and in between.
func rowsWith(f api.Fault) [][]api.Fault {
	return [][]api.Fault{{f}, {f, none}, {none, f}, {fail, f}, {crash(9), f, fail}, {f, f}, behindNone(30, f), append(behindNone(30, f), slices.Repeat([]api.Fault{none}, 1000)...)}
}

// P18.2: ErrArg of each fault that may not be, though no write would meet it, and ahead of each other error.
func TestActsOfNoFaults(t *testing.T) {
	for _, c := range bases() {
		some, most := keeping(54, 3, 0, row(3), hushes(3)), keeping(54, 3, 26, row(16), hushes(8))
		for _, no := range noFaults() {
			for _, faults := range rowsWith(no) {
				for _, a := range slices.Concat(rightActs(), stoppedActs(), []act{set(api.Duty{}), drop(nil), hushed(api.Hush{}, -1)}) {
					for _, o := range []api.Outbox{some, most, down(some), down(most)} {
						wantErr(t, c, o, a, faults, api.ErrArg)
					}
				}
			}
		}
	}
}

// P18.2: faults at their ends may be: what comes of them is what the chapter says.
func TestActsOfFaultsAtTheirEnds(t *testing.T) {
	c := small()
	for _, o := range []api.Outbox{keeping(54, 3, 0, row(3), hushes(3)), keeping(54, 3, 26, row(3), hushes(3))} {
		for kind := range 3 {
			for _, k := range []int{0, 1, 127, 128} {
				for _, faults := range rowsWith(api.Fault{Kind: kind, K: k}) {
					for _, a := range rightActs() {
						if _, why := wantAct(t, c, o, a, faults); why == api.ErrArg {
							t.Fatalf("%s with %+v: ErrArg", a.name, faults)
						}
					}
				}
			}
		}
	}
}

// wrongActs are of each duty, labels, hush and time that may not be.
func wrongActs(c api.Config) []act {
	var all []act
	for _, no := range append(noDuties(c, 1), noDuties(c, 9)...) {
		all = append(all, set(no))
	}
	for _, no := range noLabels() {
		all = append(all, drop(no))
	}
	for _, no := range noHush() {
		for _, now := range []int{0, 5, last, -1} {
			all = append(all, hushed(no, now))
		}
	}
	for _, no := range noTimes() {
		all = append(all, hushed(until(5), no), hushed(until(last), no), hushed(api.Hush{}, no))
	}
	return all
}

// P18.2: ErrArg of what else is handed, alone and with all else that may be wrong.
func TestWrongActs(t *testing.T) {
	for _, c := range bases() {
		some, most := keeping(54, 3, 0, row(3), hushes(3)), keeping(54, 3, 26, row(16), hushes(8))
		for _, a := range wrongActs(c) {
			for _, o := range []api.Outbox{some, most, {}, change(some, func(o *api.Outbox) { o.Duties[1] = o.Duties[0] })} {
				for _, faults := range [][]api.Fault{nil, {fail}, {crash(0)}, {{K: 129}}} {
					wantErr(t, c, o, a, faults, api.ErrArg)
					wantErr(t, c, down(o), a, faults, api.ErrArg)
				}
			}
		}
	}
}

// P18.2: a store that is down is ErrDown, also where there would be another error, or a write, with and without faults.
func TestActsOfDown(t *testing.T) {
	for _, c := range bases() {
		for _, used := range []int{0, 25, 26} {
			for _, o := range []api.Outbox{keeping(54, 3, used, nil, nil), keeping(54, 3, used, row(3), hushes(3)), keeping(54, 249, used, row(16), hushes(8)), keeping(54, 250, used, row(16), hushes(8))} {
				for _, a := range append(rightActs(), stoppedActs()...) {
					for _, faults := range [][]api.Fault{nil, {none}, {fail}, {crash(9)}, behindNone(50, fail)} {
						wantErr(t, c, down(o), a, faults, api.ErrDown)
					}
				}
			}
		}
	}
}

// P18.2: what stops a call that nothing else is wrong with; with a fault that would come of the write, too.
func TestActsThatAreStopped(t *testing.T) {
	for _, c := range bases() {
		for _, used := range []int{0, 25, 26} {
			o := keeping(54, 3, used, row(16), hushes(8))
			for i, want := range []api.Errno{api.ErrFull, api.ErrNone, api.ErrNone, api.ErrRange, api.ErrRange, api.ErrFull} {
				for _, faults := range [][]api.Fault{nil, {none}, {fail}, {crash(9)}} {
					wantErr(t, c, o, stoppedActs()[i], faults, want)
				}
			}
			for _, l := range [][]api.Label{ax(), nth(0), labels("z", "never")} {
				wantErr(t, c, keeping(54, 3, used, nil, hushes(8)), drop(l), nil, api.ErrNone)
			}
		}
	}
}
