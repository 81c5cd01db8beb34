package ingest

import "beck/api"

// instant tells whether a time is one.
func instant(time int) bool { return time >= -api.MaxTime && time <= api.MaxTime }

// latest is the greatest of some times, if there are any.
type latest struct {
	time  int
	known bool
}

// behind tells whether it is later than a time.
func (l latest) behind(time int) bool { return l.known && l.time > time }

// see takes a time in.
func (l *latest) see(time int) {
	if !l.behind(time) {
		*l = latest{time: time, known: true}
	}
}
