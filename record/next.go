package record

import "slots/api"

// next is a new record that tells the same; it goes into the other page, so that this one stands until it is written.
func (r Record) next() Record {
	r.Page = 1 - r.Page
	r.number = (r.number + 1) % turn
	return r
}

// phase is a new record with a phase and its tries; no chunk is there by it.
func (r Record) phase(p, tries int) Record {
	n := r.next()
	n.Phase = p
	n.Tries = tries
	n.there = 0
	return n
}

// Steady is a new record by which nothing is under way.
func (r Record) Steady() Record {
	return r.phase(api.Steady, 0)
}

// Fetching is a new record by which a manifest is there, but none of its chunks.
func (r Record) Fetching() Record {
	return r.phase(api.Fetching, 0)
}

// With is a new record by which a chunk is there, too.
func (r Record) With(chunk int) Record {
	n := r.next()
	n.there |= bit(chunk)
	return n
}

// Trying is a new record by which the slot that is not kept has an image on trial.
func (r Record) Trying(image Slot) Record {
	n := r.phase(api.Trial, api.MaxTries)
	if n.Kept == 0 {
		n.second = image
	} else {
		n.first = image
	}
	return n
}

// Tried is a new record by which a try is used up; where none was left the trial is over.
func (r Record) Tried() Record {
	if r.Tries == 0 {
		return r.Steady()
	}
	return r.phase(api.Trial, r.Tries-1)
}

// Confirmed is a new record by which the image on trial is the kept one.
func (r Record) Confirmed() Record {
	n := r.Steady()
	n.Kept = r.Other()
	return n
}
