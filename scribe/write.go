package scribe

import (
	"strconv"

	"hostelry/api"
)

// written gives the text of a deed: its kind, and the fields that this kind
// uses. All words are numbers, those of the letters of its texts too, so that
// nothing needs to be escaped.
func written(d api.Deed) string {
	w := writer{}
	w.put(d.Kind)
	switch d.Kind {
	case api.DAsk, api.DBook:
		w.id(d.ID)
		w.event(d.Event)
	case api.DRefuse, api.DCancel:
		w.id(d.ID)
	case api.DGive, api.DGet:
		w.put(d.Peer, d.N)
		w.claims(d.Claims...)
	case api.DThank:
		w.put(d.Peer, d.N)
	case api.DHear:
		w.put(d.Peer, d.N)
		w.booking(d.Book)
	}
	return joined(w.words...)
}

// writer has the words that are written so far.
type writer struct{ words []string }

func (w *writer) put(numbers ...int) {
	for _, n := range numbers {
		w.words = append(w.words, strconv.Itoa(n))
	}
}

// list writes how many numbers there are, and the numbers.
func (w *writer) list(numbers ...int) {
	w.put(len(numbers))
	w.put(numbers...)
}

func (w *writer) text(s string) {
	w.put(len(s))
	for i := range len(s) {
		w.put(int(s[i]))
	}
}

func (w *writer) id(id api.ID) {
	w.put(id.Seq, id.Site)
}

func (w *writer) event(e api.Event) {
	w.text(e.UID)
	w.text(e.Text)
	w.put(e.Start, e.Long)
	w.list(e.Rooms...)
	w.rule(e.Rule)
	w.list(e.Except...)
}

func (w *writer) rule(r api.Rule) {
	w.put(r.Freq, r.Every, r.Count, r.Until)
	w.weekdays(r.ByDay...)
	w.list(r.ByMonthDay...)
	w.list(r.ByMonth...)
}

func (w *writer) weekdays(days ...api.Weekday) {
	w.put(len(days))
	for _, day := range days {
		w.put(day.N, day.Day)
	}
}

func (w *writer) claims(claims ...api.Claim) {
	w.put(len(claims))
	for _, c := range claims {
		w.put(c.Room, c.Span.From, c.Span.To)
	}
}

func (w *writer) booking(b api.Booking) {
	w.id(b.ID)
	w.put(b.State)
	w.event(b.Event)
}
