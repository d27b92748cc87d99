package gate

import (
	"tollbar/api"
	"tollbar/http"
	"tollbar/scrub"
	"tollbar/table"
)

// As layer 18's windows: so a connection's is the same, whether what opens it comes
// ahead of its tenant's name or behind.
const mostWindow = 1 << 30

// stray is a loose connection. It is no tenant's, so no meter holds its bytes: that
// a head has its most is their bound.
type stray struct {
	in     []byte
	window int
}

// ofStray does what an event of a loose connection says.
func (g *Gate) ofStray(x *stray, e api.Event) []api.Out {
	switch e.Kind {
	case api.Bytes:
		x.in = append(x.in, e.Data...)
		return g.settle(e.Conn, x)
	case api.End:
		delete(g.loose, e.Conn)
	case api.Window:
		x.window += min(max(e.N, 0), mostWindow-x.window)
	}
	return nil
}

// settle gives a loose connection to the tenant whose host its head names, once
// that is whole, or refuses it.
func (g *Gate) settle(id int, x *stray) []api.Out {
	r, n, status := http.Head(x.in)
	if n == 0 && status == 0 {
		return nil
	}
	delete(g.loose, id)
	if status != 0 {
		return refuse(id, x.window, status)
	}
	at := table.Find(g.slots, http.Host(r))
	if at < 0 {
		return refuse(id, x.window, 421)
	}
	return g.cells[at].Adopt(id, x.in, x.window)
}

// refuse is what is done of a loose connection that is refused. Nobody holds
// anything for it, so what the window doesn't let be written at once is lost.
func refuse(id, window, status int) []api.Out {
	b := http.WriteResponse(scrub.Own(status, true))
	var outs []api.Out
	if n := min(len(b), window); n > 0 {
		outs = append(outs, api.Out{Kind: api.Write, Conn: id, Data: b[:n:n]})
	}
	return append(outs, api.Out{Kind: api.Close, Conn: id})
}
