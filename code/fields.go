package code

import "foghorn/api"

// rest is what is left of a text that is read from its beginning on. Who asks for more than that gets nothing, and the text is short for good, whatever is read behind that.
type rest struct {
	text  string
	short bool
}

// next is the next bytes, so many.
func (r *rest) next(size int) string {
	if size > len(r.text) {
		r.short = true
		return ""
	}
	head := r.text[:size]
	r.text = r.text[size:]
	return head
}

// number is the next bytes, so many, as a number, the highest first.
func (r *rest) number(size int) int {
	n := 0
	for _, one := range []byte(r.next(size)) {
		n = n<<8 | int(one)
	}
	return n
}

// ended tells whether just as much was read as there was.
func (r *rest) ended() bool {
	return r.text == "" && !r.short
}

// fields reads the fields of a record from what is left of its text.
type fields struct {
	rest
}

func (f *fields) record() api.Rec {
	r := api.Rec{Kind: f.number(1)}
	switch r.Kind {
	case api.RDuty:
		r.Duty = f.duty()
	case api.RGone:
		r.Labels = f.labels()
	case api.RHush:
		r.Hush = f.hush()
	}
	return r
}

// duty has its calls in the order of the bytes: Go makes them as they stand.
func (f *fields) duty() api.Duty {
	return api.Duty{
		Route:  f.number(1),
		Place:  f.number(1),
		Tries:  f.number(1),
		State:  f.number(1),
		Due:    f.number(timeSize),
		Labels: f.labels(),
	}
}

func (f *fields) hush() api.Hush {
	return api.Hush{From: f.number(timeSize), To: f.number(timeSize), Asked: f.matchers()}
}

func (f *fields) labels() []api.Label {
	var l []api.Label
	for range f.number(1) {
		l = append(l, api.Label{Name: f.word(), Value: f.word()})
	}
	return l
}

func (f *fields) matchers() []api.Matcher {
	var ms []api.Matcher
	for range f.number(1) {
		ms = append(ms, api.Matcher{Kind: f.number(1), Name: f.word(), Value: f.word()})
	}
	return ms
}

// word is a name or a value: its length comes ahead of it.
func (f *fields) word() string {
	return f.next(f.number(1))
}
