package cell

import (
	"slices"

	"tollbar/api"
	"tollbar/conn"
	"tollbar/frame"
	"tollbar/http"
	"tollbar/meter"
	"tollbar/ring"
	"tollbar/route"
	"tollbar/scrub"
)

const goAhead = "HTTP/1.1 100 Continue\r\n\r\n"

// client is a connection that is there.
type client struct {
	id   int
	conn *conn.Conn
	job  *job // nil: no request is under way
}

func newClient(id int, m *meter.Meter) *client { return &client{id: id, conn: conn.New(m)} }

// ofClient does what an event of a connection says.
func (c *Cell) ofClient(x *client, e api.Event) {
	switch e.Kind {
	case api.Bytes:
		if !x.conn.Feed(e.Data) {
			c.tell(api.Out{Kind: api.Pause, Conn: x.id})
			return
		}
		c.goOn(x)
	case api.End:
		if x.job != nil {
			c.hangUp(x.job.handle)
			c.record(c.entryOf(x))
		}
		c.forget(x)
	case api.Window:
		x.conn.Window(e.N)
	}
}

// goOn takes requests out of what has come, until one is under way or none is
// whole.
func (c *Cell) goOn(x *client) {
	for c.Has(x.id) && x.job == nil {
		r, status := x.conn.Next()
		switch {
		case status < 0:
			if x.conn.Waits() {
				// Where there is no room for it, the client goes without.
				x.conn.Note([]byte(goAhead))
			}
			return
		case status > 0:
			c.refuse(x, api.Req{Method: unread, Target: unread}, status, true)
		default:
			c.ask(x, r)
		}
	}
}

// ask lets a request be a job, or refuses it.
func (c *Cell) ask(x *client, r api.Req) {
	closes := frame.Closes(r.Fields, r.Minor)
	host := http.Host(r)
	if !slices.Contains(c.hosts, host) {
		c.refuse(x, r, 421, true)
		return
	}
	if !c.bucket.Take(c.Now(), 1) {
		c.refuse(x, r, 429, closes)
		return
	}
	place := route.Match(c.conf.Routes, r.Target)
	if place < 0 {
		c.refuse(x, r, 404, closes)
		return
	}
	leads := c.conf.Routes[place]
	target, right := route.Rewrite(leads, r.Target)
	if !right {
		c.refuse(x, r, 414, closes)
		return
	}
	sent := ring.New(c.meter)
	if !sent.Put(http.WriteRequest(scrub.Request(r, c.conf, host, target))) {
		c.refuse(x, r, 503, closes)
		return
	}
	x.job = &job{
		method: r.Method, target: r.Target, closes: closes, began: c.Now(),
		up: upstream(c.conf, leads.Up), tries: c.conf.Tries,
		sent: sent, come: ring.New(c.meter),
	}
	c.clock.Set(x.id, c.Now()+int64(c.conf.Total))
	c.start(x)
}

// upstream is the upstream of a name, which is that of a route.
func upstream(set api.Conf, name string) api.Up {
	for _, u := range set.Ups {
		if u.Name == name {
			return u
		}
	}
	return api.Up{}
}

// refuse is over with a request that is no job.
func (c *Cell) refuse(x *client, r api.Req, code int, closes bool) {
	e := api.Entry{Conn: x.id, Method: r.Method, Target: r.Target, Code: code}
	c.answer(x, e, own(code, closes), closes)
}

// answer writes the record of a response, and says it to the client.
func (c *Cell) answer(x *client, e api.Entry, b []byte, last bool) {
	e.Down = len(b)
	c.record(e)
	if !x.conn.Say(b, last) {
		c.close(x)
	}
}

// close closes a connection, whatever was still to be written.
func (c *Cell) close(x *client) {
	c.tell(api.Out{Kind: api.Close, Conn: x.id})
	c.forget(x)
}

// forget lets a connection not be there any more, and gives all of it back.
func (c *Cell) forget(x *client) {
	c.drop(x)
	x.conn.Drop()
	delete(c.clients, x.id)
}
