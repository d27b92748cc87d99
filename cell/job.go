package cell

import (
	"tollbar/api"
	"tollbar/frame"
	"tollbar/http"
	"tollbar/ring"
	"tollbar/scrub"
)

// The states of a handle, as layer 17 tells them.
const (
	dialled = iota + 1
	busy
	idle
)

// job is a request that is under way. From its start on it has a handle that is
// dialled or busy, and each such handle is one job's.
type job struct {
	method, target string
	began          int64
	closes         bool
	up             api.Up
	sent           *ring.Ring // what is sent, as often as it is tried
	tries          int
	handle         int
	aim            string
	come           *ring.Ring
	// A byte has come from the handle, be it given back already.
	heard bool
}

// entryOf is the record of a client's job, without what becomes of it.
func (c *Cell) entryOf(x *client) api.Entry {
	j := x.job
	return api.Entry{Conn: x.id, Method: j.method, Target: j.target, Took: c.Now() - j.began, Up: j.handle}
}

// drop lets a client have no job any more, if it has one, and gives back what the
// job holds.
func (c *Cell) drop(x *client) {
	if x.job == nil {
		return
	}
	x.job.sent.Drop()
	x.job.come.Drop()
	c.clock.Drop(x.id)
	x.job = nil
}

// over is over with a job. What it holds is given back first: that may be the room
// that the response needs.
func (c *Cell) over(x *client, code int, b []byte) {
	e, closes := c.entryOf(x), x.job.closes
	e.Code = code
	c.drop(x)
	c.answer(x, e, b, closes)
}

// fail is over with a job, with a response of the gateway's own.
func (c *Cell) fail(x *client, code int) { c.over(x, code, own(code, x.job.closes)) }

// start lends a handle to a job; if there is none to be had, it is over.
func (c *Cell) start(x *client) {
	j := x.job
	aim, e := c.health.Pick(j.up, c.Now())
	if e != api.OK {
		c.fail(x, 503)
		return
	}
	lease, e := c.pool.Take(aim)
	if e != api.OK {
		c.fail(x, 503)
		return
	}
	if lease.Shut != 0 {
		c.tell(api.Out{Kind: api.Hang, H: lease.Shut})
	}
	j.handle, j.aim = lease.H, aim
	if lease.Fresh {
		c.tell(api.Out{Kind: api.Dial, H: j.handle, Text: aim})
		return
	}
	c.send(j)
}

// send sends a job's bytes, which stay, since it may be tried anew.
func (c *Cell) send(j *job) {
	c.tell(api.Out{Kind: api.Send, H: j.handle, Data: j.sent.Peek(j.sent.Len())})
}

// hangUp takes a handle away, and closes it.
func (c *Cell) hangUp(h int) {
	c.pool.Shut(h)
	c.tell(api.Out{Kind: api.Hang, H: h})
}

// ofHandle does what an event of a handle says.
func (c *Cell) ofHandle(e api.Event) {
	switch c.pool.State(e.H) {
	case dialled:
		c.ofDialled(c.holder(e.H), e)
	case busy:
		c.ofBusy(c.holder(e.H), e)
	case idle:
		c.ofIdle(e)
	}
}

// holder is the client whose job has a handle that is dialled or busy.
func (c *Cell) holder(h int) *client {
	for _, x := range c.clients {
		if x.job != nil && x.job.handle == h {
			return x
		}
	}
	return nil
}

func (c *Cell) ofDialled(x *client, e api.Event) {
	switch e.Kind {
	case api.Joined:
		c.pool.Joined(e.H)
		c.send(x.job)
	case api.Said:
		c.lose(x, true)
	case api.Failed, api.Gone:
		c.lose(x, false)
	}
}

func (c *Cell) ofBusy(x *client, e api.Event) {
	switch e.Kind {
	case api.Said:
		x.job.heard = x.job.heard || len(e.Data) > 0
		if !x.job.come.Put(e.Data) {
			c.lose(x, true)
			return
		}
		c.look(x, false)
	case api.Gone:
		c.look(x, true)
	}
}

func (c *Cell) ofIdle(e api.Event) {
	switch e.Kind {
	case api.Said:
		c.hangUp(e.H)
	case api.Gone:
		c.pool.Shut(e.H)
	}
}

// lose tries a job anew whose handle is lost, if nothing has come of it and it does
// no harm to be sent twice; else it is over.
func (c *Cell) lose(x *client, hang bool) {
	j := x.job
	if hang {
		c.hangUp(j.handle)
	} else {
		c.pool.Shut(j.handle)
	}
	c.health.Bad(j.aim, c.Now(), c.conf)
	if !j.heard && repeatable(j.method) && j.tries > 0 {
		j.tries--
		c.start(x)
	} else {
		c.fail(x, 502)
	}
	c.goOn(x)
}

// repeatable tells whether a request of a method may be sent twice.
func repeatable(method string) bool {
	switch method {
	case "GET", "HEAD", "OPTIONS", "PUT", "DELETE", "TRACE":
		return true
	}
	return false
}

// look looks whether a response has come.
func (c *Cell) look(x *client, gone bool) {
	r, more, right := x.job.response(gone)
	switch {
	case !right:
		c.lose(x, !gone)
	case r.Code != 0:
		c.respond(x, r, more, gone)
	}
}

// response is the response that has come (of the code 0: none has yet), whether
// bytes stand behind it, and whether all is right so far. Responses that only say
// that one will come are taken out, all at once: so many of them cost no more than
// their bytes.
func (j *job) response(ended bool) (api.Resp, bool, bool) {
	b := j.come.Peek(j.come.Len())
	at := 0
	for {
		r, n, right := http.Response(b[at:], j.method, ended)
		if n == 0 || r.Code >= 200 {
			j.come.Take(at)
			return r, at+n < len(b), right
		}
		at += n
	}
}

// respond is over with a job to which a response has come.
func (c *Cell) respond(x *client, r api.Resp, more, gone bool) {
	j := x.job
	c.health.Good(j.aim)
	switch {
	case gone:
		c.pool.Shut(j.handle)
	case more || frame.Closes(r.Fields, r.Minor):
		c.hangUp(j.handle)
	default:
		c.pool.Rest(j.handle)
	}
	c.over(x, r.Code, http.WriteResponse(scrub.Response(r, j.method, j.closes)))
	c.goOn(x)
}
