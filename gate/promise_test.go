package gate_test

import (
	"bytes"
	"fmt"
	"math/rand"
	"slices"
	"strconv"
	"strings"
	"testing"

	"tollbar/api"
	"tollbar/cell"
	"tollbar/gate"
	"tollbar/http"
	"tollbar/table"
)

// model says again what the chapter says of a gate. Whose a connection is it tells by what the cells tell, not by asking them.
type model struct {
	slots []api.Slot
	cells map[string]*cell.Cell
	known map[int]*peer
}

type peer struct {
	name   string // none: it is loose
	in     string
	window int
}

func newModel(text string) *model {
	slots, _ := table.Read(text)
	m := &model{slots: slots, cells: map[string]*cell.Cell{}, known: map[int]*peer{}}
	for _, s := range slots {
		m.cells[s.Name] = cell.New(s)
	}
	return m
}

// told forgets the connections that a cell has closed.
func (m *model) told(outs []api.Out) []api.Out {
	for _, o := range outs {
		if o.Kind == api.Close {
			delete(m.known, o.Conn)
		}
	}
	return outs
}

func (m *model) refuse(id, code int) []api.Out {
	b := []byte(own(code))
	outs := []api.Out{{Kind: api.Write, Conn: id, Data: b[:min(len(b), m.known[id].window)]}, {Kind: api.Close, Conn: id}}
	if m.known[id].window == 0 {
		outs = outs[1:]
	}
	return m.told(outs)
}

func (m *model) bytes(id int, b []byte) []api.Out {
	p := m.known[id]
	p.in += string(b)
	r, n, status := http.Head([]byte(p.in))
	if status != 0 {
		return m.refuse(id, status)
	}
	if n == 0 {
		return nil
	}
	for _, s := range m.slots {
		for _, host := range s.Hosts {
			if host == http.Host(r) {
				p.name = s.Name
				return m.told(m.cells[s.Name].Adopt(id, []byte(p.in), p.window))
			}
		}
	}
	return m.refuse(id, 421)
}

func (m *model) Do(e api.Event) []api.Out {
	p := m.known[e.Conn]
	var outs []api.Out
	switch {
	case e.Kind == api.Tick || e.Kind == api.Round:
		for _, s := range m.slots {
			outs = append(outs, m.cells[s.Name].Do(e)...)
		}
	case e.Kind == api.Accept:
		if p == nil && e.Conn >= 1 && e.Conn < 1<<31 {
			m.known[e.Conn] = &peer{}
		}
	case e.Kind >= api.Joined && e.Kind <= api.Upload:
		if c := m.cells[e.Tenant]; c != nil {
			outs = c.Do(e)
		}
	case e.Kind > api.Upload || e.Kind < 1 || p == nil:
	case e.Kind == api.Bytes && p.name == "":
		return m.bytes(e.Conn, e.Data)
	case e.Kind == api.Window && p.name == "":
		p.window += max(e.N, 0)
	default:
		if p.name != "" {
			outs = m.cells[p.name].Do(e)
		}
		if e.Kind == api.End {
			delete(m.known, e.Conn)
		}
	}
	return m.told(outs)
}

// script makes events of which all things come.
type script struct {
	*rand.Rand
	names  []string
	toCome map[int]string    // of a client, what it hasn't said yet
	toSay  map[string]string // of a tenant's handle
	last   map[string]int    // the handle that a tenant was lent last
}

func newScript(seed int) *script {
	s := &script{Rand: rand.New(rand.NewSource(int64(seed))), toCome: map[int]string{}, toSay: map[string]string{}, last: map[string]int{}}
	s.names = []string{"b", "a", "c"}[:1+s.Intn(3)]
	return s
}

func (s *script) pick(several ...string) string { return several[s.Intn(len(several))] }

// text is a table's: each tenant x has the hosts x and x.x.
func (s *script) text() string {
	var text strings.Builder
	for _, name := range s.names {
		fmt.Fprintf(&text, "slot %s %s %d %d %d %d %s %s %s.%s\n", name, s.pick("256", "400", "700", "1500", "3000", "20000"),
			1+s.Intn(4), 1+s.Intn(3), 1+s.Intn(2), 1+s.Intn(9), s.pick("1", "64", "100", "500"), name, name, name)
	}
	return text.String()
}

func (s *script) conf() string {
	if s.Intn(9) == 0 {
		return s.pick("", "x\n", "total 1\n")
	}
	text := s.pick("up u a b\nroute / u /\n", "up u a\nup v b\nroute /a v /\nroute / u /\n", "up u a\nroute /a u /x\n")
	return text + s.pick("", "set X-Y z\ndrop A\n") + fmt.Sprintf("total %d\ntries %d\nfails %d\ncool %d\n", 1+s.Intn(9), s.Intn(4), 1+s.Intn(3), s.Intn(9))
}

func (s *script) host(name string) string {
	if s.Intn(12) == 0 {
		return s.pick("x", "d", "a.b", "a", "b", "c")
	}
	return s.pick(name, name+"."+name, strings.ToUpper(name)+":80")
}

func (s *script) request(name string) string {
	switch s.Intn(20) {
	case 0:
		return s.pick("BAD\r\n", "GET / HTTP/1.1\r\n\r\n", "GET / HTTP/2.0\r\n\r\n", "\n", "GET /"+strings.Repeat("x", 600)+" HTTP/1.1\r\n", "GET / HTTP/1.0\r\n\r\n")
	case 1:
		return "GET / HTTP/1.1\r\n" + strings.Repeat("X: "+strings.Repeat("x", 300)+"\r\n", 5+s.Intn(3)) + "Host: " + name + "\r\n\r\n"
	}
	method := s.pick("GET", "GET", "GET", "PUT", "POST", "HEAD")
	text := method + " " + s.pick("/", "/a", "/b") + s.pick(" HTTP/1.1\r\n", " HTTP/1.1\r\n", " HTTP/1.0\r\n") + "Host: " + s.host(name) + "\r\n"
	text += s.pick("", "", "", "Connection: close\r\n", "Connection: keep-alive\r\n")
	if method == "PUT" || method == "POST" {
		body := strings.Repeat("b", s.Intn(80))
		return text + s.pick("", "Expect: 100-continue\r\n") + "Content-Length: " + strconv.Itoa(len(body)) + "\r\n\r\n" + body
	}
	return text + "\r\n"
}

func (s *script) response() string {
	return s.pick(ok, ok, ok, "HTTP/1.1 204 x\r\n\r\n", "HTTP/1.1 200 OK\r\nContent-Length: 1\r\nConnection: close\r\n\r\nx", "HTTP/1.1 200 OK\r\n\r\nab", "HTTP/1.1 100 x\r\n\r\n", "?\r\n\r\n")
}

// cut is the first of a text, all of it more often than not, and the rest.
func (s *script) cut(text string) (string, string) {
	n := len(text)
	if s.Intn(3) == 0 {
		n = s.Intn(n + 1)
	}
	return text[:n], text[n:]
}

// event is the next one.
func (s *script) event() api.Event {
	id, name := 1+s.Intn(9), s.names[s.Intn(len(s.names))]
	h := max(s.last[name]-s.Intn(3), 0)
	switch n := s.Intn(100); {
	case n < 12:
		delete(s.toCome, id)
		return accept(id)
	case n < 40:
		if s.toCome[id] == "" || s.Intn(6) == 0 {
			s.toCome[id] += s.request(name)
		}
		text, left := s.cut(s.toCome[id])
		s.toCome[id] = left
		return says(id, text)
	case n < 44:
		return ends(id)
	case n < 54:
		return opens(id, s.Intn(300)-20)
	case n < 66:
		return of(api.Joined, name, h, "")
	case n < 80:
		key := fmt.Sprint(name, h)
		if s.toSay[key] == "" {
			s.toSay[key] = s.response()
		}
		text, left := s.cut(s.toSay[key])
		s.toSay[key] = left
		return of(api.Said, name, h, text)
	case n < 84:
		return of(s.Intn(2)+api.Failed, name, h, "")
	case n < 87:
		return upload(name, s.conf())
	case n < 91:
		return ticks(s.Intn(5) - 1)
	case n < 98:
		return round()
	}
	return api.Event{Kind: s.Intn(12) * 5 % 17, Conn: s.Intn(12) - 2, Tenant: s.pick("", "x", "A"), H: h, N: s.Intn(3), Data: []byte("GET")}
}

// hear takes what has been told.
func (s *script) hear(outs []api.Out) {
	for _, o := range outs {
		if o.Kind == api.Dial {
			s.last[o.Tenant] = o.H
		}
	}
}

// run lets a script's first events be configurations, and hands each event on, whose answer it hears.
func (s *script) run(n int, do func(i int, e api.Event) []api.Out) {
	for i := range n {
		e := s.event()
		if i < len(s.names) {
			e = upload(s.names[i], s.conf())
		}
		s.hear(do(i, e))
	}
}

// P20.1, P20.3: in every order events do as said, and a loose connection has fewer than 2048 bytes.
func TestModel(t *testing.T) {
	counts := map[string]int{}
	for seed := range 1000 {
		s := newScript(seed)
		text := s.text()
		g, none := gate.New(text)
		want(t, none)
		m := newModel(text)
		s.run(300, func(i int, e api.Event) []api.Out {
			got, must := g.Do(e), m.Do(e)
			if show(got) != show(must) {
				t.Fatalf("seed %d, event %d, %+v:\n%s\nwant:\n%s", seed, i, e, show(got), show(must))
			}
			for id := -1; id < 12; id++ {
				owner, loose := "", -1
				if p := m.known[id]; p != nil && p.name == "" {
					loose = len(p.in)
				} else if p != nil {
					owner = p.name
				}
				if g.Owner(id) != owner || g.Loose(id) != loose || loose >= api.MaxHead {
					t.Fatalf("seed %d, event %d, %+v: connection %d is %q's, %d loose; want %q, %d", seed, i, e, id, g.Owner(id), g.Loose(id), owner, loose)
				}
			}
			for _, name := range s.names {
				c, d := g.Cell(name), m.cells[name]
				if c.Held() != d.Held() || c.Conns() != d.Conns() || c.Handles() != d.Handles() || c.Now() != d.Now() {
					t.Fatalf("seed %d, event %d, %+v: the cell of %s", seed, i, e, name)
				}
			}
			count(counts, got)
			return got
		})
	}
	for _, what := range []string{"[] write", "[] close", "[a] write", "[a] close", "[a] pause", "[a] dial", "[a] send", "[a] hang", "[a] log", "[a] taken", "[a] refused", "[c] write"} {
		if counts[what] < 50 {
			t.Errorf("%s comes only %d times", what, counts[what])
		}
	}
}

// count counts tenants' kinds of outs.
func count(counts map[string]int, outs []api.Out) {
	for _, o := range outs {
		counts[strings.Join(strings.Fields(one(o))[:2], " ")]++
	}
}

// life is what becomes of a number from its Accept on.
type life struct{ name string }

// story is a script that was run, with what was told, and whose each event was (nil: nobody's).
type story struct {
	events []api.Event
	outs   [][]api.Out
	lives  []*life
}

// known tells whether a gate knows a connection.
func known(g *gate.Gate, id int) bool { return g.Owner(id) != "" || g.Loose(id) >= 0 }

// tell runs a script. A life is a tenant's if a cell was to adopt it, even if it refused that.
func tell(s *script, text string, n int) story {
	g, _ := gate.New(text)
	here := map[int]*life{}
	var told story
	s.run(n, func(_ int, e api.Event) []api.Out {
		var mine *life
		was := known(g, e.Conn)
		outs := g.Do(e)
		switch {
		case e.Kind == api.Accept && !was && known(g, e.Conn):
			mine = &life{}
			here[e.Conn] = mine
		case e.Kind >= api.Accept && e.Kind <= api.Window && was:
			mine = here[e.Conn]
			if len(outs) > 0 {
				mine.name = outs[0].Tenant
			} else if owner := g.Owner(e.Conn); owner != "" {
				mine.name = owner
			}
		case e.Kind >= api.Joined && e.Kind <= api.Upload:
			mine = &life{name: e.Tenant}
		}
		told.events, told.outs, told.lives = append(told.events, e), append(told.outs, outs), append(told.lives, mine)
		return outs
	})
	return told
}

// only is what is told of a tenant.
func only(outs []api.Out, name string) []api.Out {
	return slices.DeleteFunc(slices.Clone(outs), func(o api.Out) bool { return o.Tenant != name })
}

// alone is the text of the table of one slot of a text.
func alone(text, name string) string {
	for row := range strings.Lines(text) {
		if strings.HasPrefix(row, "slot "+name+" ") {
			return row
		}
	}
	return ""
}

// P20.2: what is done of a tenant is what a gate of its slot alone does of its own events, Ticks and Rounds.
func TestAlone(t *testing.T) {
	counts := map[string]int{}
	for seed := range 1000 {
		s := newScript(seed)
		text := s.text()
		told := tell(s, text, 300)
		for _, name := range s.names {
			g, none := gate.New(alone(text, name))
			want(t, none)
			for i, e := range told.events {
				outs := only(told.outs[i], name)
				mine := told.lives[i] != nil && told.lives[i].name == name
				if !mine && e.Kind != api.Tick && e.Kind != api.Round {
					if len(outs) > 0 {
						t.Fatalf("seed %d, event %d, %+v: of %s: %s", seed, i, e, name, show(outs))
					}
					continue
				}
				if got := show(g.Do(e)); got != show(outs) {
					t.Fatalf("seed %d, event %d, %+v: by itself:\n%s\nwith others:\n%s", seed, i, e, got, show(outs))
				}
				count(counts, outs)
			}
		}
	}
	for _, what := range []string{"write", "close", "pause", "dial", "send", "hang", "log"} {
		for _, name := range []string{"a", "b", "c"} {
			if counts["["+name+"] "+what] < 50 {
				t.Errorf("%s of %s comes only %d times", what, name, counts["["+name+"] "+what])
			}
		}
	}
}

// P20.2: one who takes all that it may doesn't take anything from another.
func TestGreedy(t *testing.T) {
	g := made(t)
	quiet := []api.Event{accept(1), opens(1, 1000), says(1, get("h")), of(api.Joined, "a", 1, ""), ticks(2), of(api.Said, "a", 1, ok), round(), says(1, get("h")), ticks(9), round(), ends(1)}
	by, _ := gate.New(alone(two, "a"))
	want(t, by.Do(upload("a", ordinary)), "[a] taken")
	next := 2
	for _, e := range quiet {
		for range 300 {
			g.Do(accept(next))
			g.Do(opens(next, 1<<30))
			g.Do(says(next, get("i")+strings.Repeat("x", 900)))
			g.Do(of(api.Joined, "b", next, ""))
			next++
		}
		want(t, only(g.Do(e), "a"), show(by.Do(e)))
	}
	if g.Cell("b").Conns() != 2 || g.Cell("b").Held() == 0 || g.Cell("a").Held() != 0 {
		t.Error("b isn't greedy")
	}
}

// spoil writes over all of a list, its spare room too.
func spoil(b []byte, with byte) {
	b = b[:cap(b)]
	for i := range b {
		b[i] = with
	}
}

// spoilAll writes over all lists of an answer, each with another byte, and tells whether two share memory.
func spoilAll(outs []api.Out) bool {
	for i, o := range outs {
		spoil(o.Data, byte(i))
	}
	for i, o := range outs {
		for _, b := range o.Data[:cap(o.Data)] {
			if b != byte(i) {
				return true
			}
		}
	}
	outs = outs[:cap(outs)]
	for i := range outs {
		outs[i] = api.Out{Kind: 77, Data: []byte("spoilt")}
	}
	return false
}

// lent is a list with something behind its length.
func lent(b []byte) []byte {
	return append(append(make([]byte, 0, len(b)+9), b...), "behind"...)[:len(b)]
}

// P20.4, P2: what is handed in is neither changed nor kept, what is answered is the caller's, and the same events are answered in the same way.
func TestMemory(t *testing.T) {
	for seed := range 400 {
		s := newScript(seed)
		text := s.text()
		plain, _ := gate.New(text)
		g, none := gate.New(text)
		want(t, none)
		s.run(300, func(i int, e api.Event) []api.Out {
			must := plain.Do(e)
			like := bytes.Clone(e.Data)
			e.Data = lent(e.Data)
			got := g.Do(e)
			if !bytes.Equal(e.Data[:len(like)+6], append(like, "behind"...)) {
				t.Fatalf("seed %d, event %d: what was handed in is changed", seed, i)
			}
			spoil(e.Data, '!')
			if show(got) != show(must) {
				t.Fatalf("seed %d, event %d: %s\nwant %s", seed, i, show(got), show(must))
			}
			if spoilAll(got) {
				t.Fatalf("seed %d, event %d: two lists share memory", seed, i)
			}
			return must
		})
	}
	_, outs := gate.New("")
	spoilAll(outs)
	_, outs = gate.New("")
	want(t, outs, "[] refused")
}
