package code_test

import (
	"math"
	"slices"
	"testing"

	"foghorn/api"
	"foghorn/code"
)

// P17.1: a Kind that there is not, whatever else the record has.
func TestKinds(t *testing.T) {
	for _, kind := range []int{0, 4, 5, -1, -2, -3, 255, 256, 257, 258, 259, 1 << 32, 1<<32 + 1, 1<<32 + 2, 1<<32 + 3, math.MinInt, math.MinInt + 1, math.MaxInt - 1, math.MaxInt} {
		wantNone(t, api.Rec{Kind: kind})
		for _, r := range bases() {
			wantNone(t, with(r, func(r *api.Rec) { r.Kind = kind }))
		}
	}
}

// P17.1: a record has what its Kind asks for, and not what another one does.
func TestOtherKinds(t *testing.T) {
	for kind := 1; kind <= 3; kind++ {
		wantNone(t, api.Rec{Kind: kind})
		for _, r := range bases() {
			if r.Kind != kind {
				wantNone(t, with(r, func(r *api.Rec) { r.Kind = kind }))
			}
		}
	}
}

// P17.1: RDuty, at each edge that may be, alone and together.
func TestDutyEdges(t *testing.T) {
	for route := range 4 {
		for place := range 4 {
			for _, tries := range []int{0, 1, 50, 98, 99} {
				for _, due := range []int{0, 1, last - 1, last} {
					for state := 1; state <= 3; state++ {
						wantMay(t, owed(ax(), route, place, tries, due, state))
					}
				}
			}
		}
	}
	for tries := range 100 {
		wantMay(t, owed(longest(), 3, 0, tries, 5, 2))
	}
}

// P17.1: RDuty: Route and Place of -1 and 4, and others that there are not.
func TestRoutesAndPlaces(t *testing.T) {
	for _, no := range []int{-1, 4, 5, -4, 255, 256, 257, 1 << 32, 1<<32 + 1, -1 << 32, math.MinInt, math.MinInt + 1, math.MaxInt - 1, math.MaxInt} {
		for state := 1; state <= 3; state++ {
			wantNone(t, owed(ax(), no, 0, 0, 5, state))
			wantNone(t, owed(ax(), no, 3, 99, last, state))
			wantNone(t, owed(ax(), 0, no, 0, 5, state))
			wantNone(t, owed(ax(), 3, no, 99, last, state))
			wantNone(t, owed(ax(), no, no, 0, 5, state))
		}
	}
}

// P17.1: RDuty: Tries of -1 and 100, and others beyond.
func TestTries(t *testing.T) {
	for _, no := range []int{-1, 100, 101, -99, 255, 256, 257, 1 << 32, 1<<32 + 1, -1 << 32, math.MinInt, math.MinInt + 1, math.MaxInt - 1, math.MaxInt} {
		for _, r := range bases() {
			if r.Kind == rDuty {
				wantNone(t, with(r, func(r *api.Rec) { r.Duty.Tries = no }))
			}
		}
	}
}

// P17.1: RDuty: a State of 0 and 4, and others that there are not.
func TestStates(t *testing.T) {
	for _, no := range []int{0, 4, 5, -1, -2, -3, 255, 256, 257, 1 << 32, 1<<32 + 1, math.MinInt, math.MinInt + 1, math.MaxInt - 1, math.MaxInt} {
		for _, r := range bases() {
			if r.Kind == rDuty {
				wantNone(t, with(r, func(r *api.Rec) { r.Duty.State = no }))
			}
		}
	}
}

// P17.1: RDuty: a Due that is no time, and times.
func TestDues(t *testing.T) {
	for _, due := range noTimes() {
		for state := 1; state <= 3; state++ {
			wantNone(t, owed(ax(), 0, 0, 0, due, state))
			wantNone(t, owed(longest(), 3, 3, 99, due, state))
		}
	}
	for _, due := range fewTimes() {
		wantMay(t, owed(ax(), 0, 0, 0, due, 1))
	}
}

// P17.1: RDuty and RGone: labels that may be, and labels that may not: none, four, not rising, two of one Name, no name, no value.
func TestLabels(t *testing.T) {
	for _, l := range fewLabels() {
		wantMay(t, gone(l))
		for state := 1; state <= 3; state++ {
			wantMay(t, owed(l, 0, 0, 0, 0, state))
			wantMay(t, owed(l, 3, 2, 1, 5, state))
		}
	}
	for _, l := range noLabels() {
		wantNone(t, gone(l))
		for state := 1; state <= 3; state++ {
			wantNone(t, owed(l, 0, 0, 0, 0, state))
			wantNone(t, owed(l, 3, 2, 1, 5, state))
		}
	}
}

// P17.1 and R5: names and values by each of the 256 bytes, of each Kind.
func TestTextsByBytes(t *testing.T) {
	for b := range 256 {
		letter := string([]byte{byte(b)})
		for _, text := range []string{letter, "a" + letter, letter + "a", "abcdefg" + letter, letter + "bcdefgh", "abc" + letter + "efg"} {
			for _, l := range [][]api.Label{labels(text, ""), labels("a", text), labels("a", "x", "b", text), labels("a", "x", text, "y")} {
				wantAsIs(t, gone(l))
				wantAsIs(t, owed(l, 1, 1, 1, 5, 1))
			}
			for kind := range 4 {
				wantAsIs(t, hushed(5, 9, asks(kind, text, "")))
				wantAsIs(t, hushed(5, 9, asks(kind, "a", text)))
				wantAsIs(t, hushed(5, 9, asks(is, "a", "x"), asks(kind, text, "y")))
			}
		}
	}
}

// P17.1: RHush: From and To that are no times, and From that is not less than To.
func TestHushTimes(t *testing.T) {
	asked := asks(is, "a", "x")
	for _, no := range noTimes() {
		wantNone(t, hushed(no, 5, asked))
		wantNone(t, hushed(5, no, asked))
		wantNone(t, hushed(0, no, asked))
		wantNone(t, hushed(no, last, asked))
		for _, other := range noTimes() {
			wantNone(t, hushed(no, other, asked))
		}
	}
	for _, from := range fewTimes() {
		for _, to := range fewTimes() {
			wantAsIs(t, hushed(from, to, asked))
		}
	}
	for _, at := range fewTimes() {
		wantNone(t, hushed(at, at, asked))
		wantNone(t, hushed(last, at, asked))
		wantNone(t, hushed(at, 0, asked))
		if at < last {
			wantMay(t, hushed(at, at+1, asked))
			wantNone(t, hushed(at+1, at, asked))
		}
	}
}

// P17.1: RHush: none to four matchers, and more.
func TestHowManyMatchers(t *testing.T) {
	wantNone(t, hushed(5, 9))
	for n := range 300 {
		row := slices.Repeat([]api.Matcher{asks(not, "a", "x")}, n)
		if n >= 1 && n <= 4 {
			wantMay(t, hushed(5, 9, row...))
		} else {
			wantNone(t, hushed(5, 9, row...))
		}
	}
}

// P17.1: RHush: a matcher that may not be, at each place: its Kind, its Name, its Value, a Value of MHas.
func TestNoMatchers(t *testing.T) {
	long := "abcdefghi"
	for _, no := range []api.Matcher{
		{}, asks(-1, "a", "x"), asks(4, "a", "x"), asks(-1, "a", ""), asks(4, "a", ""), asks(256, "a", "x"), asks(259, "a", ""), asks(1<<32, "a", ""), asks(math.MinInt, "a", ""), asks(math.MaxInt, "a", ""),
		asks(has, "a", "x"), asks(has, "a", "-"), asks(has, "", ""), asks(is, "", "x"), asks(not, "", ""), asks(begins, "A", "x"), asks(is, "a1", "x"), asks(is, long, ""), asks(has, long, ""),
		asks(is, "a", "X"), asks(not, "a", long), asks(begins, "a", "x y"), asks(is, "a", "\x80"), asks(is, "\xff", ""), asks(begins, "a", "\x00"),
	} {
		wantNone(t, hushed(5, 9, no))
		for n := 1; n <= 4; n++ {
			for at := range n {
				row := slices.Repeat([]api.Matcher{asks(is, "a", "x")}, n)
				row[at] = no
				wantNone(t, hushed(5, 9, row...))
			}
		}
	}
	for kind := range 3 {
		for _, value := range []string{"", "x", "-", "0123456-"} {
			wantMay(t, hushed(5, 9, asks(kind, "a", value), asks(has, "abcdefgh", "")))
		}
	}
}

// changes are one field each, so that it is not zero, nor empty.
func changes() map[string]func(r *api.Rec) {
	return map[string]func(r *api.Rec){
		"Duty.Labels": func(r *api.Rec) { r.Duty.Labels = ax() },
		"Duty.Route":  func(r *api.Rec) { r.Duty.Route = 1 },
		"Duty.Place":  func(r *api.Rec) { r.Duty.Place = 1 },
		"Duty.Tries":  func(r *api.Rec) { r.Duty.Tries = 1 },
		"Duty.Due":    func(r *api.Rec) { r.Duty.Due = 1 },
		"Duty.State":  func(r *api.Rec) { r.Duty.State = 1 },
		"Labels":      func(r *api.Rec) { r.Labels = ax() },
		"Hush.From":   func(r *api.Rec) { r.Hush.From = 1 },
		"Hush.To":     func(r *api.Rec) { r.Hush.To = 1 },
		"Hush.Asked":  func(r *api.Rec) { r.Hush.Asked = []api.Matcher{asks(is, "a", "x")} },
	}
}

// isOf tells whether the Kind has the field.
func isOf(kind int, field string) bool {
	switch kind {
	case rDuty:
		return field[:5] == "Duty."
	case rGone:
		return field == "Labels"
	}
	return field[:5] == "Hush."
}

// P17.1: all that a Kind does not have is zero, or empty: one field alone that is not, of each Kind.
func TestAllElseIsZero(t *testing.T) {
	for field, change := range changes() {
		for _, r := range bases() {
			if !isOf(r.Kind, field) {
				wantNone(t, with(r, change))
			}
		}
	}
	for _, n := range []int{-1, -256, 256, 1 << 32, math.MinInt, math.MaxInt} {
		for _, change := range []func(r *api.Rec){
			func(r *api.Rec) { r.Duty.Route = n }, func(r *api.Rec) { r.Duty.Place = n }, func(r *api.Rec) { r.Duty.Tries = n }, func(r *api.Rec) { r.Duty.Due = n }, func(r *api.Rec) { r.Duty.State = n },
		} {
			wantNone(t, with(gone(ax()), change))
			wantNone(t, with(hushed(5, 9, asks(is, "a", "x")), change))
		}
		for _, change := range []func(r *api.Rec){func(r *api.Rec) { r.Hush.From = n }, func(r *api.Rec) { r.Hush.To = n }} {
			wantNone(t, with(gone(ax()), change))
			wantNone(t, with(owed(ax(), 0, 0, 0, 0, 1), change))
		}
	}
}

// P17.1: lists that a Kind does not have may not have elements that are zero, either.
func TestElementsThatAreZero(t *testing.T) {
	for _, r := range bases() {
		if r.Kind != rDuty {
			wantNone(t, with(r, func(r *api.Rec) { r.Duty.Labels = make([]api.Label, 1) }))
		}
		if r.Kind != rGone {
			wantNone(t, with(r, func(r *api.Rec) { r.Labels = make([]api.Label, 1) }))
		}
		if r.Kind != rHush {
			wantNone(t, with(r, func(r *api.Rec) { r.Hush.Asked = make([]api.Matcher, 1) }))
		}
	}
}

// P17.1: two Kinds' fields that may be each for itself, in one record.
func TestTwoAtOnce(t *testing.T) {
	for _, a := range bases() {
		for _, b := range bases() {
			for kind := range 5 {
				r := api.Rec{Kind: kind, Duty: a.Duty, Labels: a.Labels, Hush: a.Hush}
				switch b.Kind {
				case rDuty:
					r.Duty = b.Duty
				case rGone:
					r.Labels = b.Labels
				case rHush:
					r.Hush = b.Hush
				}
				wantAsIs(t, r)
			}
		}
	}
}

// R3: lists that a Kind does not have may be nil, and may be empty; lists that it has may be neither.
func TestNilLists(t *testing.T) {
	for _, base := range bases() {
		want := written(base)
		for i := range 8 {
			r := copyOf(base)
			if r.Kind != rDuty {
				r.Duty.Labels = [][]api.Label{nil, {}}[i&1]
			}
			if r.Kind != rGone {
				r.Labels = [][]api.Label{nil, ax()[:0]}[i>>1&1]
			}
			if r.Kind != rHush {
				r.Hush.Asked = [][]api.Matcher{nil, {}}[i>>2&1]
			}
			wantRight(t, r, want)
		}
	}
	for _, no := range [][]api.Label{nil, {}, ax()[:0]} {
		wantNone(t, gone(no))
		wantNone(t, owed(no, 0, 0, 0, 0, 1))
	}
	for _, no := range [][]api.Matcher{nil, {}, []api.Matcher{asks(is, "a", "x")}[:0]} {
		wantNone(t, hushed(5, 9, no...))
	}
}

// P17.1: Right, by all numbers together, at and beyond their ends.
func TestRightByAllNumbers(t *testing.T) {
	for route := -1; route <= 4; route++ {
		for place := -1; place <= 4; place++ {
			for _, tries := range []int{-1, 0, 99, 100} {
				for state := -1; state <= 4; state++ {
					for _, due := range []int{-1, 0, last, last + 1} {
						wantAsIs(t, owed(ax(), route, place, tries, due, state))
					}
				}
			}
		}
	}
	edges := []int{math.MinInt, -1 << 32, -1, 0, 1, 3, 4, 99, 100, 256, 1 << 32, last, last + 1, math.MaxInt}
	for _, one := range edges {
		for _, other := range edges {
			wantAsIs(t, owed(ax(), one, other, 0, 5, 1))
			wantAsIs(t, owed(ax(), 0, one, other, 5, 1))
			wantAsIs(t, owed(ax(), 0, 0, one, other, 1))
			wantAsIs(t, owed(ax(), 0, 0, 0, one, other))
			wantAsIs(t, owed(ax(), one, 0, other, 5, 1))
			wantAsIs(t, hushed(one, other, asks(is, "a", "x")))
		}
	}
}

// P1: lists and texts that are long, and numbers at both ends.
func TestLongLists(t *testing.T) {
	many, much := slices.Repeat(ax(), 1<<20), string(make([]byte, 1<<24))
	for _, r := range []api.Rec{
		gone(many), owed(many, 0, 0, 0, 5, 1), hushed(5, 9, make([]api.Matcher, 1<<20)...), gone(labels(much, "x")), gone(labels("a", much)), owed(labels(much, much), 0, 0, 0, 5, 1), hushed(5, 9, asks(is, much, much)),
		with(gone(ax()), func(r *api.Rec) { r.Duty.Labels = many }), with(owed(ax(), 0, 0, 0, 5, 1), func(r *api.Rec) { r.Labels = many }), with(gone(ax()), func(r *api.Rec) { r.Hush.Asked = make([]api.Matcher, 1<<20) }),
	} {
		if text, why := code.Put(r); code.Right(r) || text != "" || why != api.ErrArg {
			t.Errorf("a record of Kind %d with a long list may be, or is %d", r.Kind, why)
		}
	}
	for _, n := range []int{math.MinInt, math.MaxInt} {
		wantNone(t, api.Rec{Kind: n, Duty: api.Duty{Labels: ax(), Route: n, Place: n, Tries: n, Due: n, State: n}, Labels: ax(), Hush: quiet(n, n, asks(n, "a", "x"))})
		for kind := range 5 {
			wantNone(t, api.Rec{Kind: kind, Duty: api.Duty{Labels: ax(), Route: n, Place: n, Tries: n, Due: n, State: n}, Labels: ax(), Hush: quiet(n, n, asks(n, "a", "x"))})
		}
	}
}
