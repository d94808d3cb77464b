package scribe

import (
	"strconv"
	"strings"

	"hostelry/api"
)

// read gives the deed that a text tells, or anything else if it tells none.
func read(text string) api.Deed {
	r := reader{rest: rest{text}}
	r.fields()
	return r.Deed
}

// reader has what is read so far of a deed, and the rest of its text.
type reader struct {
	api.Deed
	rest
}

// fields reads the fields in the order in which they are written.
func (r *reader) fields() {
	r.Kind = r.number()
	switch r.Kind {
	case api.DAsk, api.DBook:
		r.ID = r.id()
		r.Event = r.event()
	case api.DRefuse, api.DCancel:
		r.ID = r.id()
	case api.DGive, api.DGet:
		r.Peer, r.N = r.number(), r.number()
		r.Claims = list(&r.rest, r.claim)
	case api.DThank:
		r.Peer, r.N = r.number(), r.number()
	case api.DHear:
		r.Peer, r.N = r.number(), r.number()
		r.Book = r.booking()
	}
}

// rest is the part of a text that is not read yet.
type rest struct{ text string }

// number reads the next word. What is no number, or not there, counts as any
// number: it is not written like that.
func (r *rest) number() int {
	var word string
	word, r.text, _ = strings.Cut(r.text, blank)
	n, _ := strconv.Atoi(word)
	return n
}

// list reads how many elements there are, and then each of them, but no more
// than there are words: the number may be any.
func list[E any](r *rest, element func() E) []E {
	var out []E
	for n := r.number(); len(out) < n && r.text != ""; {
		out = append(out, element())
	}
	return out
}

func (r *rest) numbers() []int {
	return list(r, r.number)
}

func (r *rest) letters() string {
	return string(list(r, r.letter))
}

func (r *rest) letter() byte {
	return byte(r.number())
}

func (r *rest) id() api.ID {
	return api.ID{Seq: r.number(), Site: r.number()}
}

func (r *rest) event() api.Event {
	return api.Event{
		UID:    r.letters(),
		Text:   r.letters(),
		Start:  r.number(),
		Long:   r.number(),
		Rooms:  r.numbers(),
		Rule:   r.rule(),
		Except: r.numbers(),
	}
}

func (r *rest) rule() api.Rule {
	return api.Rule{
		Freq:       r.number(),
		Every:      r.number(),
		Count:      r.number(),
		Until:      r.number(),
		ByDay:      list(r, r.weekday),
		ByMonthDay: r.numbers(),
		ByMonth:    r.numbers(),
	}
}

func (r *rest) weekday() api.Weekday {
	return api.Weekday{N: r.number(), Day: r.number()}
}

func (r *rest) claim() api.Claim {
	return api.Claim{Room: r.number(), Span: api.Span{From: r.number(), To: r.number()}}
}

func (r *rest) booking() api.Booking {
	return api.Booking{ID: r.id(), State: r.number(), Event: r.event()}
}
