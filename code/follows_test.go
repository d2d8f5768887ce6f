package code_test

import (
	"math/rand/v2"
	"slices"
	"testing"

	"foghorn/api"
	"foghorn/code"
)

// someText is least to 8 of these.
func someText(r *rand.Rand, these string, least int) string {
	b := make([]byte, least+r.IntN(9-least))
	for i := range b {
		b[i] = these[r.IntN(len(these))]
	}
	return string(b)
}

// someLabels may be.
func someLabels(r *rand.Rand) []api.Label {
	var l []api.Label
	for range 1 + r.IntN(3) {
		one := api.Label{Name: someText(r, letters[:1+r.IntN(26)], 1), Value: someText(r, inValue, 0)}
		if !slices.ContainsFunc(l, func(other api.Label) bool { return other.Name == one.Name }) {
			l = append(l, one)
		}
	}
	slices.SortFunc(l, func(a, b api.Label) int {
		if a.Name < b.Name {
			return -1
		}
		return 1
	})
	return l
}

// someMatcher may be.
func someMatcher(r *rand.Rand) api.Matcher {
	kind := r.IntN(4)
	if kind == has {
		return asks(has, someText(r, letters, 1), "")
	}
	return asks(kind, someText(r, letters, 1), someText(r, inValue, 0))
}

// someRecord may be, of any Kind.
func someRecord(r *rand.Rand) api.Rec {
	switch r.IntN(3) {
	case 0:
		return owed(someLabels(r), r.IntN(4), r.IntN(4), r.IntN(100), r.IntN(1<<r.IntN(41)+1), 1+r.IntN(3))
	case 1:
		return gone(someLabels(r))
	}
	from := r.IntN(1 << r.IntN(41))
	var asked []api.Matcher
	for range 1 + r.IntN(4) {
		asked = append(asked, someMatcher(r))
	}
	return hushed(from, from+1+r.IntN(last-from), asked...)
}

// P17.3: what is put is got as it was, and what is got is put as it was; it has at most 90 bytes.
func TestThereAndBack(t *testing.T) {
	r := source()
	for range 100000 {
		one := someRecord(r)
		text, why := code.Put(one)
		if why != api.OK || len(text) > most || text != written(one) {
			t.Fatalf("Put(%+v) = %x, %d", one, text, why)
		}
		got, why := code.Get(text)
		if why != api.OK || !isSame(got, one) || !code.Right(got) {
			t.Fatalf("Put(%+v) = %x, and Get of that is %+v, %d", one, text, got, why)
		}
		if again, why := code.Put(got); again != text || why != api.OK {
			t.Fatalf("Get(%x) = %+v, and Put of that is %x, %d", text, got, again, why)
		}
	}
}

// P17.3: what is got of texts of all sorts may be, and is put as it was.
func TestBackAndThere(t *testing.T) {
	r := source()
	found := 0
	for range 100000 {
		text := mixed(r)
		got, why := code.Get(text)
		if why != api.OK {
			continue
		}
		found++
		if again, why := code.Put(got); again != text || why != api.OK || !code.Right(got) || len(text) > most {
			t.Fatalf("Get(%x) = %+v, and Put of that is %x, %d", text, got, again, why)
		}
	}
	if found < 1000 {
		t.Errorf("only %d records found", found)
	}
}

// alike are many records that may be, that differ from each other by little; some are there twice.
func alike() []api.Rec {
	var all []api.Rec
	few := [][]api.Label{labels("a", ""), labels("a", "a"), labels("a", "aa"), labels("aa", ""), labels("aa", "a"), labels("a", "", "b", ""), labels("a", "b", "b", ""), labels("a", "", "ab", ""), labels("a", "", "b", "", "c", ""), labels("ab", ""), labels("ab", "", "b", "")}
	for _, l := range few {
		all = append(all, gone(l))
		for route := range 2 {
			for place := range 2 {
				for tries := range 2 {
					for _, due := range []int{0, 1, 256, last} {
						for state := 1; state <= 3; state++ {
							all = append(all, owed(l, route, place, tries, due, state))
						}
					}
				}
			}
		}
	}
	for _, from := range []int{0, 1, 256, 1 << 32} {
		for _, to := range []int{257, 1<<32 + 1, last} {
			for _, m := range []api.Matcher{asks(is, "a", ""), asks(not, "a", ""), asks(begins, "a", ""), asks(has, "a", ""), asks(is, "a", "a"), asks(is, "aa", "")} {
				if from < to {
					all = append(all, hushed(from, to, m), hushed(from, to, m, m), hushed(from, to, asks(is, "a", ""), m), hushed(from, to, m, asks(is, "a", "")))
				}
			}
		}
	}
	return append(all, bases()...)
}

// P17.3: two records that may be have the same bytes just if they are the same.
func TestNoTwoAlike(t *testing.T) {
	all := alike()
	of := map[string]api.Rec{}
	for _, one := range all {
		wantMay(t, one)
		text, _ := code.Put(one)
		if other, ok := of[text]; ok && !isSame(one, other) {
			t.Fatalf("%+v and %+v are both %x", one, other, text)
		}
		of[text] = one
	}
	for _, one := range all {
		text, _ := code.Put(one)
		for other, r := range of {
			if (text == other) != isSame(one, r) {
				t.Fatalf("%+v is %x, %+v is %x", one, text, r, other)
			}
		}
	}
	r := source()
	for range 50000 {
		one := someRecord(r)
		text, _ := code.Put(one)
		if other, ok := of[text]; ok && !isSame(one, other) {
			t.Fatalf("%+v and %+v are both %x", one, other, text)
		}
		of[text] = one
	}
}

// P17.3: the most bytes of each Kind.
func TestMostBytes(t *testing.T) {
	full := slices.Repeat([]api.Matcher{asks(not, "abcdefgh", "01234567")}, 4)
	for n, r := range map[int]api.Rec{66: owed(longest(), 3, 3, 99, last, 3), 56: gone(longest()), 90: hushed(last-1, last, full...)} {
		if text, why := code.Put(r); len(text) != n || why != api.OK {
			t.Errorf("Put(%+v) has %d bytes, %d, want %d", r, len(text), why, n)
		}
	}
}

// room is a copy of the record in lists that have room behind their ends, with something in it: if it counted, the record might not be, or be another one.
func room(r api.Rec) api.Rec {
	r.Duty.Labels = append(slices.Clone(r.Duty.Labels), labels("zz", "r", "", "")...)[:len(r.Duty.Labels)]
	r.Labels = append(slices.Clone(r.Labels), labels("zz", "r", "", "")...)[:len(r.Labels)]
	r.Hush.Asked = append(slices.Clone(r.Hush.Asked), asks(has, "q", ""), api.Matcher{})[:len(r.Hush.Asked)]
	return r
}

// whole is a copy of the record with all that its lists have room for.
func whole(r api.Rec) api.Rec {
	r.Duty.Labels = r.Duty.Labels[:cap(r.Duty.Labels)]
	r.Labels = r.Labels[:cap(r.Labels)]
	r.Hush.Asked = r.Hush.Asked[:cap(r.Hush.Asked)]
	return copyOf(r)
}

// R4: no call changes the lists that it was handed, nor what lies behind their ends, and that counts for nothing.
func TestListsStay(t *testing.T) {
	all := bases()
	for _, change := range changes() {
		for _, r := range bases() {
			all = append(all, with(r, change))
		}
	}
	for _, l := range noLabels() {
		all = append(all, gone(l), owed(l, 0, 0, 0, 5, 1))
	}
	for _, plain := range all {
		r := room(plain)
		was := whole(r)
		wantAsIs(t, r)
		if !isSame(whole(r), was) {
			t.Fatalf("%+v became %+v", was, whole(r))
		}
	}
}

// spoil overwrites the lists of an answer, also by writing behind their ends.
func spoil(r api.Rec) {
	for _, l := range [][]api.Label{r.Duty.Labels, r.Labels} {
		for i := range l[:cap(l)] {
			l[:cap(l)][i] = api.Label{Name: "spoilt", Value: "spoilt"}
		}
	}
	ms := r.Hush.Asked[:cap(r.Hush.Asked)]
	for i := range ms {
		ms[i] = api.Matcher{Kind: -1, Name: "spoilt", Value: "spoilt"}
	}
}

// R1 and R4: an answer shares no memory with what is answered later.
func TestAnswersAreTheirOwn(t *testing.T) {
	for range 3 {
		for _, r := range bases() {
			text, _ := code.Put(r)
			got, _ := code.Get(text)
			other, _ := code.Get(text)
			spoil(got)
			if !isSame(other, r) {
				t.Errorf("%+v was spoilt", r)
			}
			wantRight(t, r, text)
		}
	}
}

// R1: a call answers the same, whatever was called ahead of it.
func TestNothingIsKept(t *testing.T) {
	all := bases()
	for range 3 {
		for i, r := range all {
			wantMay(t, r)
			wantChar(t, written(r)[:len(written(r))-1])
			wantMay(t, all[len(all)-1-i])
			wantNone(t, with(r, func(r *api.Rec) { r.Kind = 4 }))
			wantChar(t, "")
			wantMay(t, r)
			wantRight(t, gone(ax()), "\x02\x01\x01a\x01x")
			wantChar(t, "\x02\x01\x01a\x01xx")
		}
	}
}

// P17.1 and P17.2: each two records, one put and got behind the other.
func TestEachTwo(t *testing.T) {
	for _, a := range bases() {
		for _, b := range bases() {
			one, _ := code.Put(a)
			other, _ := code.Put(b)
			if (one == other) != isSame(a, b) {
				t.Errorf("%+v is %x, %+v is %x", a, one, b, other)
			}
			wantRight(t, a, one)
			wantRight(t, b, other)
		}
	}
}
