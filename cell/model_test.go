package cell_test

import (
	"fmt"
	"math/rand"
	"slices"
	"strconv"
	"strings"
	"testing"

	"tollbar/api"
	"tollbar/bucket"
	"tollbar/cell"
	"tollbar/clock"
	"tollbar/conf"
	"tollbar/entry"
	"tollbar/frame"
	"tollbar/http"
	"tollbar/pool"
	"tollbar/robin"
	"tollbar/route"
	"tollbar/scrub"
)

// model says again what the chapter says of a cell, with plain bytes, the sum of which is what is held.
type model struct {
	slot   api.Slot
	all    []*peer // by rising number
	pool   *pool.Pool
	health *pool.Health
	bucket *bucket.Bucket
	clock  *clock.Clock
	robin  *robin.Robin
	conf   api.Conf
	seq    int64
	last   int // the handle that was lent last
	outs   []api.Out
}

type peer struct {
	id                    int
	in, out               string
	window                int
	busy, closing, waited bool
	work                  *work
}

type work struct {
	method, target string
	began          int64
	closes         bool
	up             api.Up
	bytes          string
	tries, h       int
	aim            string
	came           string
	any            bool
}

func newModel(s api.Slot) *model {
	return &model{
		slot: s, pool: pool.New(s.Pool), health: pool.NewHealth(), bucket: bucket.New(s.Rate, s.Burst),
		clock: clock.New(), robin: robin.New(s.Quantum), conf: conf.Default(),
	}
}

func (m *model) Held() int {
	n := 0
	for _, p := range m.all {
		n += len(p.in) + len(p.out)
		if p.work != nil {
			n += len(p.work.bytes) + len(p.work.came)
		}
	}
	return n
}

func (m *model) room(n int) bool { return m.Held()+n <= m.slot.Quota }

func (m *model) find(id int) *peer {
	for _, p := range m.all {
		if p.id == id {
			return p
		}
	}
	return nil
}

func (m *model) away(p *peer) {
	m.clock.Drop(p.id)
	m.all = slices.DeleteFunc(m.all, func(q *peer) bool { return q == p })
}

func (m *model) tell(kind, id, h int, text, data string) {
	m.outs = append(m.outs, api.Out{Kind: kind, Conn: id, Tenant: m.slot.Name, H: h, Text: text, Data: []byte(data)})
}

func (m *model) record(id int, w *work, method, target string, code, down int) {
	m.seq++
	e := api.Entry{Seq: m.seq, At: m.clock.Now(), Conn: id, Method: method, Target: target, Code: code, Down: down}
	if w != nil {
		e.Took, e.Up = m.clock.Now()-w.began, w.h
	}
	b, _ := entry.Write(e)
	m.tell(api.Log, 0, 0, "", string(b))
}

func (m *model) over(p *peer, method, target, b string, code int, closing bool) {
	w := p.work
	if w != nil {
		method, target, p.work = w.method, w.target, nil
		m.clock.Drop(p.id)
	}
	m.record(p.id, w, method, target, code, len(b))
	p.busy = false
	if closing {
		p.closing, p.in = true, ""
	}
	if !m.room(len(b)) {
		m.tell(api.Close, p.id, 0, "", "")
		m.away(p)
		return
	}
	p.out += b
}

func (m *model) overOwn(p *peer, method, target string, code int, closing bool) {
	m.over(p, method, target, own(code, closing), code, closing)
}

func (m *model) goesOn(p *peer) {
	for m.find(p.id) == p && !p.busy && !p.closing {
		r, n, status := http.Request([]byte(p.in))
		if status != 0 {
			p.in, p.closing = "", true
			m.overOwn(p, "-", "-", status, true)
			return
		}
		if n == 0 {
			if !p.waited && http.Waits([]byte(p.in)) {
				p.waited = true
				if m.room(len(goAhead)) {
					p.out += goAhead
				}
			}
			return
		}
		p.in, p.busy, p.waited = p.in[n:], true, false
		m.request(p, r)
	}
}

func (m *model) request(p *peer, r api.Req) {
	closes := frame.Closes(r.Fields, r.Minor)
	host, now := http.Host(r), m.clock.Now()
	refuse := func(code int, closing bool) { m.overOwn(p, r.Method, r.Target, code, closing) }
	if !slices.Contains(m.slot.Hosts, host) {
		refuse(421, true)
		return
	}
	if !m.bucket.Take(now, 1) {
		refuse(429, closes)
		return
	}
	at := route.Match(m.conf.Routes, r.Target)
	if at < 0 {
		refuse(404, closes)
		return
	}
	target, ok := route.Rewrite(m.conf.Routes[at], r.Target)
	if !ok {
		refuse(414, closes)
		return
	}
	b := string(http.WriteRequest(scrub.Request(r, m.conf, host, target)))
	if !m.room(len(b)) {
		refuse(503, closes)
		return
	}
	up := slices.IndexFunc(m.conf.Ups, func(u api.Up) bool { return u.Name == m.conf.Routes[at].Up })
	p.work = &work{method: r.Method, target: r.Target, began: now, closes: closes, up: m.conf.Ups[up], bytes: b, tries: m.conf.Tries}
	m.clock.Set(p.id, now+int64(m.conf.Total))
	m.starts(p)
}

func (m *model) starts(p *peer) {
	w := p.work
	aim, e := m.health.Pick(w.up, m.clock.Now())
	lease := pool.Lease{}
	if e == api.OK {
		lease, e = m.pool.Take(aim)
	}
	if e != api.OK {
		m.overOwn(p, "", "", 503, w.closes)
		return
	}
	if lease.Shut != 0 {
		m.tell(api.Hang, 0, lease.Shut, "", "")
	}
	w.h, w.aim, w.came, w.any = lease.H, aim, "", false
	if m.last = max(m.last, lease.H); lease.Fresh {
		m.tell(api.Dial, 0, w.h, aim, "")
	} else {
		m.tell(api.Send, 0, w.h, "", w.bytes)
	}
}

func (m *model) lost(p *peer, hang bool) {
	w := p.work
	m.pool.Shut(w.h)
	if hang {
		m.tell(api.Hang, 0, w.h, "", "")
	}
	m.health.Bad(w.aim, m.clock.Now(), m.conf)
	if !w.any && w.tries > 0 && slices.Contains([]string{"GET", "HEAD", "OPTIONS", "PUT", "DELETE", "TRACE"}, w.method) {
		w.tries--
		m.starts(p)
	} else {
		m.overOwn(p, "", "", 502, w.closes)
	}
	m.goesOn(p)
}

func (m *model) looks(p *peer, ended bool) {
	w := p.work
	r, n, ok := http.Response([]byte(w.came), w.method, ended)
	switch {
	case !ok:
		m.lost(p, !ended)
	case n == 0:
	case r.Code < 200:
		w.came = w.came[n:]
		m.looks(p, ended)
	default:
		m.health.Good(w.aim)
		if frame.Closes(r.Fields, r.Minor) || n < len(w.came) || ended {
			m.pool.Shut(w.h)
			if !ended {
				m.tell(api.Hang, 0, w.h, "", "")
			}
		} else {
			m.pool.Rest(w.h)
		}
		m.over(p, "", "", string(http.WriteResponse(scrub.Response(r, w.method, w.closes))), r.Code, w.closes)
		m.goesOn(p)
	}
}

func (m *model) Adopt(id int, b []byte, window int) []api.Out {
	m.outs = nil
	if len(m.all) >= m.slot.Conns || !m.room(len(b)) {
		s := own(503, true)
		m.record(id, nil, "-", "-", 503, len(s))
		if n := min(window, len(s)); n > 0 {
			m.tell(api.Write, id, 0, "", s[:n])
		}
		m.tell(api.Close, id, 0, "", "")
		return m.outs
	}
	p := &peer{id: id, in: string(b), window: max(window, 0)}
	m.all = append(m.all, p)
	slices.SortFunc(m.all, func(a, b *peer) int { return a.id - b.id })
	m.goesOn(p)
	return m.outs
}

func (m *model) Do(e api.Event) []api.Out {
	m.outs = nil
	p := m.find(e.Conn)
	switch {
	case e.Kind == api.Bytes && p != nil:
		if !p.closing && !m.room(len(e.Data)) {
			m.tell(api.Pause, p.id, 0, "", "")
			break
		}
		if !p.closing {
			p.in += string(e.Data)
		}
		m.goesOn(p)
	case e.Kind == api.End && p != nil:
		if w := p.work; w != nil {
			m.pool.Shut(w.h)
			m.tell(api.Hang, 0, w.h, "", "")
			m.record(p.id, w, w.method, w.target, 0, 0)
		}
		m.away(p)
	case e.Kind == api.Window && p != nil:
		p.window += max(e.N, 0)
	case e.Kind == api.Upload:
		if c, wrong := conf.Read(string(e.Data)); wrong == api.OK {
			m.conf = c
			m.tell(api.Taken, 0, 0, "", "")
		} else {
			m.tell(api.Refused, 0, 0, "", "")
		}
	case e.Kind == api.Tick:
		m.tick(e.N)
	case e.Kind == api.Round:
		m.round()
	default:
		m.handle(e)
	}
	return m.outs
}

func (m *model) handle(e api.Event) {
	state := m.pool.State(e.H)
	var p *peer
	for _, q := range m.all {
		if q.work != nil && q.work.h == e.H && (state == 1 || state == 2) {
			p = q
		}
	}
	switch {
	case state == 0:
	case e.Kind == api.Joined:
		if m.pool.Joined(e.H) {
			m.tell(api.Send, 0, e.H, "", p.work.bytes)
		}
	case e.Kind == api.Failed && state == 1, e.Kind == api.Gone && state == 1:
		m.lost(p, false)
	case e.Kind == api.Said && state == 1:
		m.lost(p, true)
	case e.Kind == api.Said && state == 3:
		m.pool.Shut(e.H)
		m.tell(api.Hang, 0, e.H, "", "")
	case e.Kind == api.Gone && state == 3:
		m.pool.Shut(e.H)
	case e.Kind == api.Said:
		p.work.any = p.work.any || len(e.Data) > 0
		if !m.room(len(e.Data)) {
			m.lost(p, true)
			return
		}
		p.work.came += string(e.Data)
		m.looks(p, false)
	case e.Kind == api.Gone:
		m.looks(p, true)
	}
}

func (m *model) tick(n int) {
	for _, id := range m.clock.Pass(n) {
		p := m.find(id)
		m.pool.Shut(p.work.h)
		m.tell(api.Hang, 0, p.work.h, "", "")
		m.health.Bad(p.work.aim, m.clock.Now(), m.conf)
		m.overOwn(p, "", "", 504, p.work.closes)
		m.goesOn(p)
	}
}

func (m *model) round() {
	var flows []robin.Flow
	for _, p := range m.all {
		flows = append(flows, robin.Flow{Conn: p.id, Want: min(len(p.out), p.window)})
	}
	for _, g := range m.robin.Round(flows) {
		p := m.find(g.Conn)
		m.tell(api.Write, p.id, 0, "", p.out[:g.N])
		p.out, p.window = p.out[g.N:], p.window-g.N
	}
	for _, p := range slices.Clone(m.all) {
		if p.closing && !p.busy && p.out == "" {
			m.tell(api.Close, p.id, 0, "", "")
			m.away(p)
		}
	}
}

// script makes events of which all things come.
type script struct {
	*rand.Rand
	toCome map[int]string // of a client, what it hasn't said yet
	toSay  map[int]string // of a handle
}

func (s script) pick(several ...string) string { return several[s.Intn(len(several))] }

func (s script) slot() api.Slot {
	return api.Slot{
		Name: "t", Hosts: []string{"h", "g"}, Quota: []int{256, 400, 700, 1500, 3000, 20000}[s.Intn(6)],
		Conns: 1 + s.Intn(4), Pool: 1 + s.Intn(3), Rate: 1 + s.Intn(2), Burst: 1 + s.Intn(9), Quantum: []int{1, 64, 100, 500}[s.Intn(4)],
	}
}

func (s script) conf() string {
	if s.Intn(9) == 0 {
		return s.pick("", "x\n", "total 1\n", "up u a\nroute / v /\ntotal 9\ntries 1\nfails 3\ncool 5\n")
	}
	text := s.pick("up u a b\nup v b c d\n", "up u a\nup v b\n", "up v d\nup u a\n")
	text += s.pick("route / u /\n", "route /a v /"+strings.Repeat("n", 90)+"\nroute / u /\n", "route /a u /\nroute /b v /x\n")
	text += s.pick("", "", "set X-Y z\ndrop A\n", "set X "+strings.Repeat("z", 150)+"\n")
	return text + fmt.Sprintf("total %d\ntries %d\nfails %d\ncool %d\n", 1+s.Intn(9), s.Intn(4), 1+s.Intn(3), s.Intn(9))
}

func (s script) request() string {
	switch s.Intn(25) {
	case 0:
		return s.pick("BAD\r\n", "GET / HTTP/1.1\r\n\r\n", "GET / HTTP/2.0\r\n\r\n", "\n", "GET /"+strings.Repeat("x", 600)+" HTTP/1.1\r\n")
	case 1:
		return "PUT / HTTP/1.1\r\nHost: h\r\nTransfer-Encoding: chunked\r\n\r\n2;x\r\nab\r\n0\r\n\r\n"
	case 2:
		return "GET /a/" + strings.Repeat("x", s.Intn(500)) + " HTTP/1.1\r\nHost: h\r\n\r\n"
	}
	method := s.pick("GET", "GET", "GET", "PUT", "POST", "HEAD", "DELETE")
	text := method + " " + s.pick("/", "/a", "/a/b?c", "/b", "/ab") + s.pick(" HTTP/1.1\r\n", " HTTP/1.1\r\n", " HTTP/1.1\r\n", " HTTP/1.0\r\n")
	text += "Host: " + s.pick("h", "h", "h", "h", "H:80", "g", "g", "x") + "\r\n"
	text += s.pick("", "", "", "", "Connection: close\r\n", "Connection: keep-alive\r\nA: b\r\n")
	if method == "PUT" || method == "POST" {
		body := strings.Repeat("b", s.Intn(80))
		return text + s.pick("", "Expect: 100-continue\r\n") + "Content-Length: " + strconv.Itoa(len(body)) + "\r\n\r\n" + body
	}
	return text + "\r\n"
}

func (s script) response() string {
	body := strings.Repeat("r", s.Intn(70))
	sized := "\r\nContent-Length: " + strconv.Itoa(len(body))
	return s.pick(
		"HTTP/1.1 200 OK"+sized+"\r\n\r\n"+body,
		"HTTP/1.1 200 OK"+sized+"\r\n\r\n"+body,
		"HTTP/1.1 200 OK"+sized+"\r\n\r\n"+body,
		"HTTP/1.1 404 x"+sized+"\r\nConnection: close\r\n\r\n"+body,
		"HTTP/1.0 200 x"+sized+"\r\n\r\n"+body,
		"HTTP/1.1 204 x\r\nVia: y\r\n\r\n",
		"HTTP/1.1 100 x\r\n\r\n",
		"HTTP/1.1 103 x\r\nLink: y\r\n\r\nHTTP/1.1 200 OK"+sized+"\r\n\r\n"+body,
		"HTTP/1.1 200 OK\r\nTransfer-Encoding: chunked\r\n\r\n3\r\nabc\r\n0\r\n\r\n",
		"HTTP/1.1 200 OK\r\n\r\n"+body,
		"HTTP/1.1 304 x"+sized+"\r\n\r\n"+s.pick("", "x"),
		"?\r\n\r\n",
		"HTTP/1.1 200 OK\r\nContent-Length: 5, 6\r\n\r\n",
	)
}

// some is the first of what is still to be said, all of it more often than not.
func (s script) some(left map[int]string, n int, more func() string) []byte {
	if left[n] == "" || s.Intn(6) == 0 {
		left[n] += more()
	}
	text, k := left[n], len(left[n])
	if s.Intn(3) == 0 {
		k = s.Intn(k + 1)
	}
	left[n] = text[k:]
	return []byte(text[:k])
}

// event is the next one, of a cell whose last handle is h.
func (s script) event(h int) api.Event {
	id := 1 + s.Intn(5)
	h = max(h-s.Intn(4), 0)
	switch n := s.Intn(100); {
	case n < 30:
		return api.Event{Kind: api.Bytes, Conn: id, Data: s.some(s.toCome, id, s.request)}
	case n < 32:
		delete(s.toCome, id)
		return ends(id)
	case n < 40:
		return opens(id, s.Intn(300))
	case n < 53:
		return joined(h)
	case n < 75:
		return api.Event{Kind: api.Said, H: h, Data: s.some(s.toSay, h, s.response)}
	case n < 78:
		return failed(h)
	case n < 82:
		return gone(h)
	case n < 84:
		return upload(s.conf())
	case n < 89:
		return ticks(s.Intn(5) - 1)
	case n < 99:
		return round()
	}
	return api.Event{Kind: s.Intn(20) + 12, Conn: id, H: h}
}

// told is a text of what is told, and of all that may be asked behind it.
func told(outs []api.Out, held, conns, handles int, now int64) string {
	return fmt.Sprintf("%s; held %d, %d connections, %d handles, at %d", show(outs), held, conns, handles, now)
}

// P19.1, P19.2: in every order events do as said, and the operator's bounds are kept.
func TestModel(t *testing.T) {
	codes := map[string]int{}
	for seed := range 1500 {
		s := script{rand.New(rand.NewSource(int64(seed))), map[int]string{}, map[int]string{}}
		limits := s.slot()
		c, m := cell.New(limits), newModel(limits)
		first := upload(s.conf())
		c.Do(first)
		m.Do(first)
		for i := range 200 {
			var got, like []api.Out
			e := s.event(m.last)
			if e.Kind == api.Bytes && m.find(e.Conn) == nil {
				window := s.Intn(200) - 20
				got, like = c.Adopt(e.Conn, e.Data, window), m.Adopt(e.Conn, e.Data, window)
			} else {
				got, like = c.Do(e), m.Do(e)
			}
			is := told(got, c.Held(), c.Conns(), c.Handles(), c.Now())
			if must := told(like, m.Held(), len(m.all), m.pool.Len(), m.clock.Now()); is != must {
				t.Fatalf("seed %d, event %d, %+v:\n%s\nwant:\n%s", seed, i, e, is, must)
			}
			if c.Held() > limits.Quota || c.Conns() > limits.Conns || c.Handles() > limits.Pool {
				t.Fatalf("seed %d, event %d: %s of %+v", seed, i, is, limits)
			}
			for id := range 7 {
				if c.Has(id) != (m.find(id) != nil) {
					t.Fatalf("seed %d, event %d: connection %d", seed, i, id)
				}
			}
			count(codes, got)
		}
	}
	for _, code := range []string{"0", "200", "204", "304", "400", "404", "414", "421", "429", "502", "503", "504", "505", "close", "pause", "taken", "refused", "dial", "send", "hang", "write"} {
		if codes[code] < 20 {
			t.Errorf("%s comes only %d times", code, codes[code])
		}
	}
}

// count counts the codes of records, and the kinds of other outs.
func count(codes map[string]int, outs []api.Out) {
	for _, o := range outs {
		words := strings.Fields(one(o))
		if o.Kind == api.Log {
			codes[words[7]]++
		} else {
			codes[words[0]]++
		}
	}
}
