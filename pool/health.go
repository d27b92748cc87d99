package pool

import (
	"strings"

	"tollbar/api"
)

// Health is how well aims do.
type Health struct {
	// By an upstream's name; not brought within the number of its aims, since it
	// may have more of them when it is asked for next.
	turns map[string]int
	// By aim: how often it has failed in a row, if it has.
	fails map[string]int
	// By aim: when it was sick last, if it was.
	bouts map[string]bout
}

// bout is a time of being sick: from a moment on, for some ticks.
type bout struct {
	from int64
	cool int
}

// NewHealth is health of which nothing is known.
func NewHealth() *Health {
	return &Health{turns: map[string]int{}, fails: map[string]int{}, bouts: map[string]bout{}}
}

// Pick is an aim of an upstream.
func (x *Health) Pick(u api.Up, now int64) (string, api.Errno) {
	turn := x.turns[u.Name]
	for i := range u.Aims {
		place := (turn + i) % len(u.Aims)
		if !x.Sick(u.Aims[place], now) {
			x.turns[strings.Clone(u.Name)] = place + 1
			return strings.Clone(u.Aims[place]), api.OK
		}
	}
	return "", api.ErrNone
}

// Bad tells that an aim has failed.
func (x *Health) Bad(aim string, now int64, c api.Conf) bool {
	fails := x.fails[aim] + 1
	if fails < c.Fails {
		x.fails[strings.Clone(aim)] = fails
		return false
	}
	delete(x.fails, aim)
	x.bouts[strings.Clone(aim)] = bout{from: now, cool: c.Cool}
	return true
}

// Good tells that an aim has done well.
func (x *Health) Good(aim string) { delete(x.fails, aim) }

// Sick tells whether an aim is sick.
func (x *Health) Sick(aim string, now int64) bool {
	b, some := x.bouts[aim]
	return some && b.ahead(now)
}

// ahead tells whether a bout's end is ahead. The end itself might have no number,
// so the ticks since its beginning, or until then, are held against its own.
func (b bout) ahead(now int64) bool {
	if now < b.from {
		return b.cool >= 0 || uint64(b.from)-uint64(now) > -uint64(b.cool)
	}
	return b.cool > 0 && uint64(now)-uint64(b.from) < uint64(b.cool)
}
