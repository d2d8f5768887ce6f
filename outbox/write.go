package outbox

import (
	"iter"
	"slices"

	"foghorn/api"
	"foghorn/code"
	"foghorn/store"
)

// written is the outbox behind a record, that makes next of it. Whether the log has room is the store's to tell.
func written(o, next api.Outbox, r api.Rec, faults []api.Fault) (api.Outbox, api.Errno) {
	s, why := store.Append(o.Store, bytesOf(r), firstOf(faults))
	if why == api.ErrFull {
		return turned(o, next, faults)
	}
	return told(o, next, s, why)
}

// turned is the outbox behind a turn of its store to all that next has.
func turned(o, next api.Outbox, faults []api.Fault) (api.Outbox, api.Errno) {
	var l []string
	for r := range recordsOf(next) {
		l = append(l, bytesOf(r))
	}
	s, why := store.Turn(o.Store, l, faults)
	return told(o, next, s, why)
}

// told is what is answered of a write: next, if it came to its end; o with what it left of the store, if a fault kept it from that.
func told(o, next api.Outbox, s api.Store, why api.Errno) (api.Outbox, api.Errno) {
	switch why {
	case api.OK:
		o = next
	case api.ErrFault, api.ErrDown:
	default:
		return api.Outbox{}, why
	}
	o.Store = s
	return copyOf(o), why
}

// recordsOf are the records that tell all duties, in order, and all hushes, in order.
func recordsOf(o api.Outbox) iter.Seq[api.Rec] {
	return func(yield func(api.Rec) bool) {
		for _, d := range o.Duties {
			if !yield(api.Rec{Kind: api.RDuty, Duty: d}) {
				return
			}
		}
		for _, h := range o.Hushes {
			if !yield(api.Rec{Kind: api.RHush, Hush: h}) {
				return
			}
		}
	}
}

// bytesOf is only asked of records whose duty, labels or hush was looked at: code.Put has nothing against them.
func bytesOf(r api.Rec) string {
	text, _ := code.Put(r)
	return text
}

// firstOf is no fault, where there is none.
func firstOf(faults []api.Fault) api.Fault {
	if len(faults) == 0 {
		return api.Fault{Kind: api.FNone}
	}
	return faults[0]
}

// copyOf shares no list with the outbox, so that who changes an answer changes nothing that was handed. The disk is left out: every store that is told has one of its own.
func copyOf(o api.Outbox) api.Outbox {
	o.Duties = slices.Clone(o.Duties)
	for i, d := range o.Duties {
		o.Duties[i].Labels = slices.Clone(d.Labels)
	}
	o.Hushes = slices.Clone(o.Hushes)
	for i, h := range o.Hushes {
		o.Hushes[i].Asked = slices.Clone(h.Asked)
	}
	return o
}
