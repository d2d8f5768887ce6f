package outbox

import (
	"slices"

	"foghorn/api"
	"foghorn/duty"
)

// areLess tells whether labels are less than others: of two duties that are due at one time nothing else is asked.
func areLess(a, b []api.Label) bool {
	return duty.Ahead(api.Duty{Labels: a}, api.Duty{Labels: b})
}

// doRise tells whether the Labels of each duty are less than those of the next one.
func doRise(duties []api.Duty) bool {
	for i := 1; i < len(duties); i++ {
		if !areLess(duties[i-1].Labels, duties[i].Labels) {
			return false
		}
	}
	return true
}

// notAhead finds the first duty, among some that rise, that does not stand ahead of the place of these labels.
func notAhead(l []api.Label) func(api.Duty) bool {
	return func(d api.Duty) bool {
		return !areLess(d.Labels, l)
	}
}

// spanOf is from where to where the duty of these labels stands; that is no way, where there is none.
func spanOf(duties []api.Duty, l []api.Label) (from, to int) {
	from = slices.IndexFunc(duties, notAhead(l))
	switch {
	case from < 0:
		return len(duties), len(duties)
	case areLess(l, duties[from].Labels):
		return from, from
	}
	return from, from + 1
}

// behind is the outbox when a record is done to its duties and hushes.
func behind(o api.Outbox, r api.Rec) api.Outbox {
	switch r.Kind {
	case api.RDuty:
		from, to := spanOf(o.Duties, r.Duty.Labels)
		o.Duties = slices.Replace(slices.Clone(o.Duties), from, to, r.Duty)
	case api.RGone:
		from, to := spanOf(o.Duties, r.Labels)
		o.Duties = slices.Delete(slices.Clone(o.Duties), from, to)
	case api.RHush:
		o.Hushes = append(slices.Clone(o.Hushes), r.Hush)
	}
	return o
}
