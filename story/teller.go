package story

import (
	"strings"

	"tollbar/api"
	"tollbar/gate"
)

// teller is a gate that does a script, and what lives its connections' numbers have
// had: of each number all of them, in order.
type teller struct {
	*gate.Gate
	lives map[int][]life
}

// life is one of a connection's number.
type life struct {
	name   string // its tenant's; none: it is nobody's so far
	places []int  // where its events stand in the script
}

// newTeller is a gate's teller, and what the gate tells first.
func newTeller(text string) (*teller, []api.Out) {
	g, outs := gate.New(text)
	return &teller{Gate: g, lives: map[int][]life{}}, outs
}

// known tells whether a connection's number is in a life.
func (t *teller) known(id int) bool { return t.Loose(id) >= 0 || t.Owner(id) != "" }

// live lets the gate do an event of a connection, and notes of which life it is. That
// a life has ended, by whatever event, needn't be noted: its number isn't known then.
func (t *teller) live(at int, e api.Event) {
	was := t.known(e.Conn)
	outs := t.Do(e)
	if !was && t.known(e.Conn) {
		t.lives[e.Conn] = append(t.lives[e.Conn], life{})
	} else if !was {
		return
	}
	several := t.lives[e.Conn]
	l := &several[len(several)-1]
	l.places = append(l.places, at)
	if l.name == "" {
		l.name = t.adopter(e.Conn, outs)
	}
}

// adopter is the name of the tenant whose cell was to adopt a connection by an event
// of which this is told; none, if it is loose still, or no cell was. A cell that was
// to, and doesn't have it, has told at least its Close.
func (t *teller) adopter(id int, outs []api.Out) string {
	if len(outs) > 0 {
		return outs[0].Tenant
	}
	return t.Owner(id)
}

// named is the name of the slot that has it; none, if there is no such one.
func (t *teller) named(name string) string {
	if t.Cell(name) == nil {
		return ""
	}
	return strings.Clone(name)
}

// sign writes a life's tenant to the places of its events.
func (l life) sign(owners []string) {
	for _, at := range l.places {
		owners[at] = l.name
	}
}
