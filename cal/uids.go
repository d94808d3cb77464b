package cal

import (
	"hostelry/api"
	"hostelry/event"
)

// uids are those that the events of a calendar have.
type uids map[string]struct{}

// add takes one in, and reports whether no event had it yet.
func (u uids) add(uid string) bool {
	_, had := u[uid]
	u[uid] = struct{}{}
	return !had
}

// canBeTogether reports whether each of these is an event, with a UID of its own.
func canBeTogether(events ...api.Event) bool {
	seen := uids{}
	for _, e := range events {
		if !event.Is(e) || !seen.add(e.UID) {
			return false
		}
	}
	return true
}
