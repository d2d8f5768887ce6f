package outbox_test

import (
	"fmt"
	"math/rand/v2"
	"slices"
	"strings"
	"testing"

	"foghorn/api"
	"foghorn/code"
	"foghorn/config"
	"foghorn/duty"
	"foghorn/hush"
	"foghorn/label"
	"foghorn/outbox"
	"foghorn/seal"
	"foghorn/store"
)

const (
	is, not, begins, has = 0, 1, 2, 3

	sNew, sTold, sDone = 1, 2, 3

	rDuty, rGone, rHush = 1, 2, 3

	maxBase = 1 << 20
	maxWait = 1 << 30
	last    = 1 << 40
)

var (
	none = api.Fault{Kind: 0}
	fail = api.Fault{Kind: 1}
)

func crash(k int) api.Fault {
	return api.Fault{Kind: 2, K: k}
}

// behindNone is the fault behind so many writes without one.
func behindNone(writes int, f api.Fault) []api.Fault {
	return append(slices.Repeat([]api.Fault{none}, writes), f)
}

// A seed that stays the same: a run that fails fails again.
func source() *rand.Rand {
	return rand.New(rand.NewPCG(36, 37))
}

// receiver has its numbers in this order: Base, Top, Jitter, Tries, Fails, Open, Burst, Every.
func receiver(name string, n ...int) api.Receiver {
	return api.Receiver{Name: name, Back: api.Back{Base: n[0], Top: n[1], Jitter: n[2]}, Tries: n[3], Fails: n[4], Open: n[5], Burst: n[6], Every: n[7]}
}

// tried is a receiver of so many tries.
func tried(name string, tries int) api.Receiver {
	return receiver(name, 1, 8, 0, tries, 5, 10, 2, 4)
}

// four are receivers of unlike tries.
func four() []api.Receiver {
	return []api.Receiver{tried("a", 2), tried("b", 3), tried("c", 1), tried("d", 100)}
}

func asks(kind int, name, value string) api.Matcher {
	return api.Matcher{Kind: kind, Name: name, Value: value}
}

func path(chain []int, asked ...api.Matcher) api.Route {
	return api.Route{Chain: chain, Asked: asked}
}

// labels are of each two texts: a name, and its value.
func labels(texts ...string) []api.Label {
	var l []api.Label
	for i := 0; i < len(texts); i += 2 {
		l = append(l, api.Label{Name: texts[i], Value: texts[i+1]})
	}
	return l
}

// ax are the labels where it doesn't matter which.
func ax() []api.Label {
	return labels("a", "x")
}

// nth are labels that rise with their number; each other one is more of the one ahead of it.
func nth(i int) []api.Label {
	l := labels("a", fmt.Sprintf("%02d", i/2))
	if i%2 == 1 {
		l = append(l, api.Label{Name: "b", Value: "x"})
	}
	return l
}

// small has one receiver of two tries and one route, that asks nothing.
func small() api.Config {
	return api.Config{Receivers: four()[:1:1], Routes: []api.Route{path([]int{0})}, Repeat: 1, Beat: 1}
}

// full has four receivers and four routes, of chains of each length; no route takes all.
func full() api.Config {
	return api.Config{Receivers: four(), Repeat: 60, Beat: 30, Routes: []api.Route{
		path([]int{3, 1, 0, 2}, asks(is, "a", "x"), asks(not, "b", "y")),
		path([]int{2}, asks(begins, "zone", "eu")),
		path([]int{0, 3}, asks(is, "a", ""), asks(begins, "b", ""), asks(has, "c", "")),
		path([]int{1, 2, 3}, asks(has, "a", ""), asks(has, "b", ""), asks(not, "b", ""), asks(begins, "b", "z")),
	}}
}

// bases may be.
func bases() []api.Config {
	return []api.Config{small(), full()}
}

func owed(l []api.Label, route, place, tries, due, state int) api.Duty {
	return api.Duty{Labels: l, Route: route, Place: place, Tries: tries, Due: due, State: state}
}

// fresh is a duty of these labels that may be with any config.
func fresh(l []api.Label, due int) api.Duty {
	return owed(l, 0, 0, 0, due, sNew)
}

// row are so many duties that rise; the later ones are due earlier.
func row(n int) []api.Duty {
	var l []api.Duty
	for i := range n {
		l = append(l, owed(nth(i), 0, 0, i%2, 1000-i, 1+i%3))
	}
	return l
}

func quiet(from, to int, asked ...api.Matcher) api.Hush {
	return api.Hush{From: from, To: to, Asked: asked}
}

// until is a hush that is over at that time.
func until(to int) api.Hush {
	return quiet(0, to, asks(is, "a", "x"))
}

// hushes are so many, no two alike, that are over from 1000 on, one by one, the last one first.
func hushes(n int) []api.Hush {
	var l []api.Hush
	for i := range n {
		l = append(l, quiet(i, 1000+n-i, asks(i%3, "a", fmt.Sprint(i)), asks(has, "b", "")))
	}
	return l
}

func dutyRec(d api.Duty) api.Rec {
	return api.Rec{Kind: rDuty, Duty: d}
}

func goneRec(l []api.Label) api.Rec {
	return api.Rec{Kind: rGone, Labels: l}
}

func hushRec(h api.Hush) api.Rec {
	return api.Rec{Kind: rHush, Hush: h}
}

// put is the bytes of a record that may be.
func put(r api.Rec) string {
	text, why := code.Put(r)
	if why != api.OK {
		panic(fmt.Sprintf("Put(%+v): %d", r, why))
	}
	return text
}

// bytesOfAll are the payloads of all these duties and hushes, in order.
func bytesOfAll(duties []api.Duty, hushes []api.Hush) []string {
	var l []string
	for _, d := range duties {
		l = append(l, put(dutyRec(d)))
	}
	for _, h := range hushes {
		l = append(l, put(hushRec(h)))
	}
	return l
}

// with is the disk with another text at that place.
func with(d api.Disk, at int, text string) api.Disk {
	l := slices.Clone(d.Sectors)
	l[at] = text
	return api.Disk{Sectors: l}
}

// blank has bytes 0 alone.
func blank(n int) api.Disk {
	return api.Disk{Sectors: slices.Repeat([]string{strings.Repeat("\x00", 128)}, max(n, 0))}
}

// sealed is one that seal is known to answer.
func sealed(gen, no int, payload string) string {
	text, why := seal.Seal(gen, no, payload)
	if why != api.OK {
		panic(fmt.Sprintf("Seal(%d, %d, %q): %d", gen, no, payload, why))
	}
	return text
}

// place is the sector of record i of a generation, as chapter 4 lays the areas of n sectors.
func place(n, gen, i int) int {
	if gen%2 == 0 {
		return 2 + i
	}
	return 1 + n/2 + i
}

// logged is a store of n sectors with a generation's records, and nothing else on its disk.
func logged(n, gen int, l ...string) api.Store {
	d := with(blank(n), gen%2, sealed(gen, 0, ""))
	for i, payload := range l {
		d = with(d, place(n, gen, i), sealed(gen, i+1, payload))
	}
	return api.Store{Disk: d, Gen: gen, Used: len(l), Top: gen}
}

// keeping is an outbox of these duties and hushes on a disk of n sectors: its log tells them one by one, and up to used records more, that tell nothing new.
func keeping(n, gen, used int, duties []api.Duty, hushes []api.Hush) api.Outbox {
	l := bytesOfAll(duties, hushes)
	for len(l) < used {
		l = append(l, put(goneRec(labels("z", "never"))))
	}
	return api.Outbox{Store: logged(n, gen, l...), Duties: duties, Hushes: hushes}
}

// empty is what New is known to answer.
func empty(t *testing.T, c api.Config, n int) api.Outbox {
	t.Helper()
	o, why := outbox.New(c, n)
	if why != api.OK {
		t.Fatalf("New(%+v, %d): %d", c, n, why)
	}
	return o
}

// copyOf shares nothing with the outbox.
func copyOf(o api.Outbox) api.Outbox {
	o.Store.Disk.Sectors = slices.Clone(o.Store.Disk.Sectors)
	o.Duties = slices.Clone(o.Duties)
	for i := range o.Duties {
		o.Duties[i].Labels = slices.Clone(o.Duties[i].Labels)
	}
	o.Hushes = slices.Clone(o.Hushes)
	for i := range o.Hushes {
		o.Hushes[i].Asked = slices.Clone(o.Hushes[i].Asked)
	}
	return o
}

// change is the outbox with one change.
func change(o api.Outbox, do func(o *api.Outbox)) api.Outbox {
	o = copyOf(o)
	do(&o)
	return o
}

func down(o api.Outbox) api.Outbox {
	o.Store.Down = true
	return o
}

func isSameDuty(a, b api.Duty) bool {
	return slices.Equal(a.Labels, b.Labels) && a.Route == b.Route && a.Place == b.Place && a.Tries == b.Tries && a.Due == b.Due && a.State == b.State
}

func isSameHush(a, b api.Hush) bool {
	return a.From == b.From && a.To == b.To && slices.Equal(a.Asked, b.Asked)
}

func isSameStore(a, b api.Store) bool {
	return slices.Equal(a.Disk.Sectors, b.Disk.Sectors) && a.Gen == b.Gen && a.Used == b.Used && a.Top == b.Top && a.Down == b.Down
}

// hasSame holds the duties and hushes of two alone against each other; a nil list is an empty one.
func hasSame(a, b api.Outbox) bool {
	return slices.EqualFunc(a.Duties, b.Duties, isSameDuty) && slices.EqualFunc(a.Hushes, b.Hushes, isSameHush)
}

func isSame(a, b api.Outbox) bool {
	return isSameStore(a.Store, b.Store) && hasSame(a, b)
}

// show tells an outbox without the bytes of its disk.
func show(o api.Outbox) string {
	s := o.Store
	return fmt.Sprintf("{%d sectors, Gen %d, Used %d, Top %d, Down %v, duties %+v, hushes %+v}", len(s.Disk.Sectors), s.Gen, s.Used, s.Top, s.Down, o.Duties, o.Hushes)
}

// wantOutbox fails, unless this is the outbox and the error.
func wantOutbox(t *testing.T, what string, o api.Outbox, why api.Errno, want api.Outbox, wantWhy api.Errno) {
	t.Helper()
	if why != wantWhy {
		t.Fatalf("%s: error %d, want %d", what, why, wantWhy)
	}
	if !isSame(o, want) {
		t.Fatalf("%s: %s, want %s (disks alike: %v)", what, show(o), show(want), slices.Equal(o.Store.Disk.Sectors, want.Store.Disk.Sectors))
	}
}

// wantNothing fails, unless this is the error, and the outbox is zero beside it.
func wantNothing(t *testing.T, what string, o api.Outbox, why, want api.Errno) {
	t.Helper()
	if why != want || !isSame(o, api.Outbox{}) {
		t.Fatalf("%s: %s, %d, want nothing and %d", what, show(o), why, want)
	}
}

// wantBoot fails, unless Boot tells this outbox.
func wantBoot(t *testing.T, c api.Config, d api.Disk, want api.Outbox) {
	t.Helper()
	got, why := outbox.Boot(c, d)
	wantOutbox(t, "Boot", got, why, want, api.OK)
}

// isLess is what chapter 16 says of the Labels of two duties, pair by pair and byte by byte.
func isLess(a, b []api.Label) bool {
	for i := range min(len(a), len(b)) {
		if a[i].Name != b[i].Name {
			return a[i].Name < b[i].Name
		}
		if a[i].Value != b[i].Value {
			return a[i].Value < b[i].Value
		}
	}
	return len(a) < len(b)
}

// mayBe is what the chapter says of an outbox, with a config.
func mayBe(c api.Config, o api.Outbox) bool {
	may := config.Right(c) && store.Right(o.Store) && len(o.Store.Disk.Sectors) >= 54 && len(o.Duties) <= 16 && hush.Right(o.Hushes)
	for i, d := range o.Duties {
		may = may && duty.Right(c, d) && (i == 0 || isLess(o.Duties[i-1].Labels, d.Labels))
	}
	return may
}

func mayFaults(l []api.Fault) bool {
	for _, f := range l {
		if f.Kind != 0 && f.Kind != 1 && f.Kind != 2 || f.K < 0 || f.K > 128 {
			return false
		}
	}
	return true
}

// done is what the chapter says of a record that is done to duties and hushes: the one of its Labels is taken away, and the record's put at the end, and then in its place.
func done(o api.Outbox, r api.Rec) api.Outbox {
	o = copyOf(o)
	l := r.Labels
	if r.Kind == rDuty {
		l = r.Duty.Labels
	}
	if r.Kind == rHush {
		o.Hushes = append(o.Hushes, r.Hush)
		return o
	}
	var left []api.Duty
	for _, d := range o.Duties {
		if !slices.Equal(d.Labels, l) {
			left = append(left, d)
		}
	}
	if r.Kind == rDuty {
		left = append(left, r.Duty)
		for i := len(left) - 1; i > 0 && isLess(left[i].Labels, left[i-1].Labels); i-- {
			left[i], left[i-1] = left[i-1], left[i]
		}
	}
	o.Duties = left
	return o
}

// behindWrite is what the chapter says is told of a write: by the error, with duties and hushes as they are then, or as they were.
func behindWrite(o, then api.Outbox, s api.Store, why api.Errno) (api.Outbox, api.Errno) {
	if why == api.ErrFull {
		return api.Outbox{}, why
	}
	if why == api.OK {
		return api.Outbox{Store: s, Duties: then.Duties, Hushes: then.Hushes}, why
	}
	return api.Outbox{Store: s, Duties: o.Duties, Hushes: o.Hushes}, why
}

// written is what the chapter says of a record that is written.
func written(o, then api.Outbox, r api.Rec, faults []api.Fault) (api.Outbox, api.Errno) {
	area := len(o.Store.Disk.Sectors)/2 - 1
	if o.Store.Used == area {
		return turned(o, then, faults)
	}
	f := none
	if len(faults) > 0 {
		f = faults[0]
	}
	s, why := store.Append(o.Store, put(r), f)
	return behindWrite(o, then, s, why)
}

func turned(o, then api.Outbox, faults []api.Fault) (api.Outbox, api.Errno) {
	s, why := store.Turn(o.Store, bytesOfAll(then.Duties, then.Hushes), faults)
	return behindWrite(o, then, s, why)
}

// act is one call more of an outbox: the call, and what the chapter says of it.
type act struct {
	name string
	do   func(c api.Config, o api.Outbox, faults []api.Fault) (api.Outbox, api.Errno)
	want func(c api.Config, o api.Outbox, faults []api.Fault) (api.Outbox, api.Errno)
}

func set(d api.Duty) act {
	return act{
		name: fmt.Sprintf("Set of %+v", d),
		do: func(c api.Config, o api.Outbox, faults []api.Fault) (api.Outbox, api.Errno) {
			return outbox.Set(c, o, d, faults)
		},
		want: func(c api.Config, o api.Outbox, faults []api.Fault) (api.Outbox, api.Errno) {
			if !mayBe(c, o) || !mayFaults(faults) || !duty.Right(c, d) {
				return api.Outbox{}, api.ErrArg
			}
			if o.Store.Down {
				return api.Outbox{}, api.ErrDown
			}
			isThere := slices.ContainsFunc(o.Duties, func(other api.Duty) bool { return slices.Equal(other.Labels, d.Labels) })
			if len(o.Duties) == 16 && !isThere {
				return api.Outbox{}, api.ErrFull
			}
			return written(o, done(o, dutyRec(d)), dutyRec(d), faults)
		},
	}
}

func drop(l []api.Label) act {
	return act{
		name: fmt.Sprintf("Drop of %+v", l),
		do: func(c api.Config, o api.Outbox, faults []api.Fault) (api.Outbox, api.Errno) {
			return outbox.Drop(c, o, l, faults)
		},
		want: func(c api.Config, o api.Outbox, faults []api.Fault) (api.Outbox, api.Errno) {
			if !mayBe(c, o) || !mayFaults(faults) || !label.Right(l) {
				return api.Outbox{}, api.ErrArg
			}
			if o.Store.Down {
				return api.Outbox{}, api.ErrDown
			}
			if !slices.ContainsFunc(o.Duties, func(other api.Duty) bool { return slices.Equal(other.Labels, l) }) {
				return api.Outbox{}, api.ErrNone
			}
			return written(o, done(o, goneRec(l)), goneRec(l), faults)
		},
	}
}

func hushed(h api.Hush, now int) act {
	return act{
		name: fmt.Sprintf("Quiet of %+v at %d", h, now),
		do: func(c api.Config, o api.Outbox, faults []api.Fault) (api.Outbox, api.Errno) {
			return outbox.Quiet(c, o, h, now, faults)
		},
		want: func(c api.Config, o api.Outbox, faults []api.Fault) (api.Outbox, api.Errno) {
			if !mayBe(c, o) || !mayFaults(faults) || !hush.Right([]api.Hush{h}) || now < 0 || now > last {
				return api.Outbox{}, api.ErrArg
			}
			if o.Store.Down {
				return api.Outbox{}, api.ErrDown
			}
			l, why := hush.Add(o.Hushes, h, now)
			if why != api.OK {
				return api.Outbox{}, why
			}
			if slices.ContainsFunc(o.Hushes, func(other api.Hush) bool { return other.To <= now }) {
				return turned(o, api.Outbox{Duties: o.Duties, Hushes: l}, faults)
			}
			return written(o, done(o, hushRec(h)), hushRec(h), faults)
		},
	}
}

// wantAct holds a call against what the chapter says, and tells what it answered.
func wantAct(t *testing.T, c api.Config, o api.Outbox, a act, faults []api.Fault) (api.Outbox, api.Errno) {
	t.Helper()
	want, wantWhy := a.want(c, o, faults)
	got, why := a.do(c, o, faults)
	if why != wantWhy || !isSame(got, want) {
		wantOutbox(t, fmt.Sprintf("%s to %s with %+v", a.name, show(o), faults), got, why, want, wantWhy)
	}
	return got, why
}

// wantOK is a call that comes to its end; it answers the outbox then.
func wantOK(t *testing.T, c api.Config, o api.Outbox, a act) api.Outbox {
	t.Helper()
	got, why := wantAct(t, c, o, a, nil)
	if why != api.OK {
		t.Fatalf("%s to %s: %d", a.name, show(o), why)
	}
	return got
}

// wantErr is a call that answers this error, and nothing beside it.
func wantErr(t *testing.T, c api.Config, o api.Outbox, a act, faults []api.Fault, want api.Errno) {
	t.Helper()
	got, why := a.do(c, o, faults)
	if why != want || !isSame(got, api.Outbox{}) {
		t.Fatalf("%s to %s with %+v: %s, %d, want nothing and %d", a.name, show(o), faults, show(got), why, want)
	}
}

// The limits are those that api names.
func TestLimits(t *testing.T) {
	if api.MinBox != 54 || api.MaxDuties != 16 || api.MaxHushes != 8 || api.MaxTick != last || api.SectorSize != 128 || api.MaxGen != 250 || api.FNone != 0 || api.FFail != 1 || api.FCrash != 2 {
		t.Fatal("other limits")
	}
	if api.RDuty != rDuty || api.RGone != rGone || api.RHush != rHush || api.SNew != sNew || api.STold != sTold || api.SDone != sDone {
		t.Fatal("other kinds, or other states")
	}
}

// P18.1: what the wrong ones are made of may be, so that each is wrong for the one reason it is made for.
func TestBases(t *testing.T) {
	for _, c := range bases() {
		if !config.Right(c) {
			t.Fatalf("%+v may not be", c)
		}
		for _, n := range []int{54, 130} {
			for duties := range 17 {
				for size := range 9 {
					o := keeping(n, 1, 0, row(duties), hushes(size))
					if !mayBe(c, o) || !outbox.Right(c, o) {
						t.Fatalf("%s may not be", show(o))
					}
					wantBoot(t, c, o.Store.Disk, o)
				}
			}
		}
	}
}

// The chapter's example.
func TestExample(t *testing.T) {
	c := small()
	one, other := fresh(labels("a", "x"), 0), fresh(labels("b", "y"), 0)
	o, why := outbox.New(c, 54)
	if why != api.OK {
		t.Fatalf("New: %d", why)
	}
	o, why = outbox.Set(c, o, one, nil)
	if why != api.OK || !hasSame(o, api.Outbox{Duties: []api.Duty{one}}) {
		t.Fatalf("Set of a=x: %s, %d", show(o), why)
	}
	o, why = outbox.Set(c, o, other, []api.Fault{crash(9)})
	if why != api.ErrDown || !o.Store.Down || !hasSame(o, api.Outbox{Duties: []api.Duty{one}}) {
		t.Fatalf("Set of b=y: %s, %d", show(o), why)
	}
	o, why = outbox.Boot(c, o.Store.Disk)
	if why != api.OK || o.Store.Down || o.Store.Gen != 1 || o.Store.Used != 1 || !hasSame(o, api.Outbox{Duties: []api.Duty{one}}) {
		t.Fatalf("Boot: %s, %d", show(o), why)
	}
}
