package story_test

import (
	"fmt"
	"math"
	"math/rand"
	"reflect"
	"slices"
	"strconv"
	"strings"
	"testing"
	"unsafe"

	"tollbar/api"
	"tollbar/gate"
	"tollbar/http"
	"tollbar/story"
	"tollbar/table"
)

// maker makes scripts in which all things come.
type maker struct {
	*rand.Rand
	names  []string
	text   string
	toCome map[int]string    // of a client, what it hasn't said yet
	toSay  map[string]string // of a tenant's handle
	last   map[string]int    // the handle that a tenant was lent last
}

func newMaker(seed int) *maker {
	m := &maker{Rand: rand.New(rand.NewSource(int64(seed))), toCome: map[int]string{}, toSay: map[string]string{}, last: map[string]int{}}
	m.names = []string{"b", "a", "c"}[:1+m.Intn(3)]
	for _, name := range m.names {
		m.text += fmt.Sprintf("slot %s %s %d %d %d %d %s %s %s.%s\n", name, m.pick("256", "400", "700", "1500", "3000", "20000"),
			1+m.Intn(4), 1+m.Intn(3), 1+m.Intn(2), 1+m.Intn(9), m.pick("1", "64", "100", "500"), name, name, name)
	}
	return m
}

func (m *maker) pick(several ...string) string { return several[m.Intn(len(several))] }

func (m *maker) conf() string {
	if m.Intn(9) == 0 {
		return m.pick("", "x\n", "total 1\n")
	}
	text := m.pick("up u a b\nroute / u /\n", "up u a\nup v b\nroute /a v /\nroute / u /\n", "up u a\nroute /a u /x\n")
	return text + fmt.Sprintf("total %d\ntries %d\nfails %d\ncool %d\n", 1+m.Intn(9), m.Intn(4), 1+m.Intn(3), m.Intn(9))
}

func (m *maker) request(name string) string {
	if m.Intn(15) == 0 {
		return m.pick("BAD\r\n", "GET / HTTP/1.1\r\n\r\n", "GET / HTTP/2.0\r\n\r\n", "\n", "GET /"+strings.Repeat("x", 600)+" HTTP/1.1\r\n", "GET / HTTP/1.1\r\n"+strings.Repeat("X: "+strings.Repeat("x", 300)+"\r\n", 7))
	}
	if m.Intn(12) == 0 {
		name = m.pick("x", "d", "a.b", "a", "b", "c")
	}
	host := m.pick(name, name+"."+name, strings.ToUpper(name)+":80")
	method := m.pick("GET", "GET", "GET", "PUT", "POST", "HEAD")
	text := method + " " + m.pick("/", "/a", "/b") + m.pick(" HTTP/1.1\r\n", " HTTP/1.1\r\n", " HTTP/1.0\r\n") + "Host: " + host + "\r\n" + m.pick("", "", "", "Connection: close\r\n")
	if method == "PUT" || method == "POST" {
		body := strings.Repeat("b", m.Intn(80))
		return text + m.pick("", "Expect: 100-continue\r\n") + "Content-Length: " + strconv.Itoa(len(body)) + "\r\n\r\n" + body
	}
	return text + "\r\n"
}

// cut is the first of a text, all of it more often than not, and the rest.
func (m *maker) cut(text string) (string, string) {
	n := len(text)
	if m.Intn(3) == 0 {
		n = m.Intn(n + 1)
	}
	return text[:n], text[n:]
}

func (m *maker) said(name string, h int) api.Event {
	key := fmt.Sprint(name, h)
	if m.toSay[key] == "" {
		m.toSay[key] = m.pick(ok, ok, ok, "HTTP/1.1 204 x\r\n\r\n", "HTTP/1.1 200 OK\r\nContent-Length: 1\r\nConnection: close\r\n\r\nx", "HTTP/1.1 200 OK\r\n\r\nab", "HTTP/1.1 100 x\r\n\r\n", "?\r\n\r\n")
	}
	text, left := m.cut(m.toSay[key])
	m.toSay[key] = left
	return of(api.Said, name, h, text)
}

// event is the next one.
func (m *maker) event() api.Event {
	id, name := 1+m.Intn(9), m.names[m.Intn(len(m.names))]
	h := max(m.last[name]-m.Intn(3), 0)
	switch n := m.Intn(100); {
	case n < 14:
		delete(m.toCome, id)
		return accept(id)
	case n < 42:
		if m.toCome[id] == "" || m.Intn(6) == 0 {
			m.toCome[id] += m.request(name)
		}
		text, left := m.cut(m.toCome[id])
		m.toCome[id] = left
		return says(id, text)
	case n < 47:
		return ends(id)
	case n < 55:
		return opens(id, m.Intn(300)-20)
	case n < 66:
		return of(api.Joined, name, h, "")
	case n < 80:
		return m.said(name, h)
	case n < 84:
		return of(m.Intn(2)+api.Failed, name, h, "")
	case n < 87:
		return upload(name, m.conf())
	case n < 91:
		return ticks(m.Intn(5) - 1)
	case n < 98:
		return round()
	}
	return api.Event{Kind: m.Intn(16) - 1, Conn: m.Intn(12) - 2, Tenant: m.pick("", "x", "A"), H: h, N: m.Intn(3), Data: []byte("GET")}
}

// script is n events, of which a gate was told while they were made: upstreams answer what was dialled.
func (m *maker) script(n int) []api.Event {
	g, _ := gate.New(m.text)
	var script []api.Event
	for i := range n {
		e := m.event()
		if i < len(m.names) {
			e = upload(m.names[i], m.conf())
		}
		for _, o := range g.Do(e) {
			if o.Kind == api.Dial {
				m.last[o.Tenant] = o.H
			}
		}
		script = append(script, e)
	}
	return script
}

// life is what becomes of a number from its Accept on.
type life struct {
	name, in string
	whole    bool // its head is, or it is refused
	places   []int
}

// reader says again what the chapter says of owners. Whose a life is it reads from its head, and its end from what is told, without asking a gate.
type reader struct {
	slots []api.Slot
	here  map[int]*life
	names []string
}

func newReader(text string) *reader {
	slots, _ := table.Read(text)
	return &reader{slots: slots, here: map[int]*life{}}
}

// take takes an event and what is told of it.
func (r *reader) take(e api.Event, outs []api.Out) {
	at := len(r.names)
	r.names = append(r.names, "")
	if e.Kind == api.Accept && r.here[e.Conn] == nil && e.Conn >= 1 && e.Conn <= 1<<31-1 {
		r.here[e.Conn] = &life{}
	}
	switch {
	case e.Kind >= api.Joined && e.Kind <= api.Upload:
		if slices.ContainsFunc(r.slots, func(s api.Slot) bool { return s.Name == e.Tenant }) {
			r.names[at] = e.Tenant
		}
	case e.Kind >= api.Accept && e.Kind <= api.Window && r.here[e.Conn] != nil:
		r.live(r.here[e.Conn], e, at)
	}
	for _, o := range outs {
		if o.Kind == api.Close {
			delete(r.here, o.Conn)
		}
	}
}

func (r *reader) live(l *life, e api.Event, at int) {
	l.places = append(l.places, at)
	if e.Kind == api.End {
		delete(r.here, e.Conn)
	}
	if e.Kind == api.Bytes && !l.whole {
		l.in += string(e.Data)
		q, n, status := http.Head([]byte(l.in))
		l.whole = n > 0 || status != 0
		if place := table.Find(r.slots, http.Host(q)); place >= 0 && status == 0 {
			l.name = r.slots[place].Name
		}
	}
	for _, at := range l.places {
		r.names[at] = l.name
	}
}

// P21.1: Run tells what a gate tells, and Owners, Only and Of are as said, at all scripts.
func TestModel(t *testing.T) {
	counts := map[string]int{}
	for seed := range 600 {
		m := newMaker(seed)
		script := m.script(250)
		g, first := gate.New(m.text)
		want := [][]api.Out{first}
		r := newReader(m.text)
		for _, e := range script {
			outs := g.Do(e)
			want = append(want, outs)
			r.take(e, outs)
		}
		outs := story.Run(m.text, script)
		if !same(outs, want) {
			t.Fatalf("seed %d: told:\n%v\nwant:\n%v", seed, outs, want)
		}
		owners := story.Owners(m.text, script)
		if !slices.Equal(owners, r.names) {
			t.Fatalf("seed %d: owners:\n%q\nwant:\n%q", seed, owners, r.names)
		}
		for i, name := range owners {
			counts[fmt.Sprintf("%q %d", name, script[i].Kind)]++
		}
		for _, name := range append(m.names, "", "x", "A") {
			holdOnly(t, m.text, script, owners, name)
			holdOf(t, outs, name)
		}
	}
	for kind := api.Accept; kind <= api.Upload; kind++ {
		for _, name := range []string{"", "a", "b", "c"} {
			if key := fmt.Sprintf("%q %d", name, kind); counts[key] < 50 {
				t.Errorf("events of %s come only %d times", key, counts[key])
			}
		}
	}
}

// holdOnly holds Only against owners.
func holdOnly(t *testing.T, text string, script []api.Event, owners []string, name string) {
	t.Helper()
	var events []api.Event
	var places []int
	for i, e := range script {
		if e.Kind == api.Tick || e.Kind == api.Round || name != "" && owners[i] == name {
			events, places = append(events, e), append(places, i)
		}
	}
	if got, at := story.Only(text, script, name); !slices.Equal(at, places) || len(places) > 0 && !reflect.DeepEqual(got, events) {
		t.Fatalf("Only of %q: %v, %v", name, got, at)
	}
}

// holdOf holds Of against its words.
func holdOf(t *testing.T, outs [][]api.Out, name string) {
	t.Helper()
	want := make([][]api.Out, len(outs))
	for i, several := range outs {
		for _, o := range several {
			if o.Tenant == name {
				want[i] = append(want[i], o)
			}
		}
	}
	if got := story.Of(outs, name); !same(got, want) {
		t.Fatalf("Of %q: %v", name, got)
	}
}

// holdAlone holds what is told of a tenant at its places against what is told of its events alone, and nothing at others.
func holdAlone(t *testing.T, text string, script []api.Event, name string) [][]api.Out {
	t.Helper()
	events, places := story.Only(text, script, name)
	alone := story.Run(story.Alone(text, name), events)
	told := story.Of(story.Run(text, script), name)
	if len(alone) != len(events)+1 || len(told) != len(script)+1 {
		t.Fatalf("%s: %d and %d lists of %d and %d events", name, len(alone), len(told), len(events), len(script))
	}
	with := told[:1]
	for i, outs := range told[1:] {
		if slices.Contains(places, i) {
			with = append(with[:len(with):len(with)], outs)
		} else if len(outs) > 0 {
			t.Fatalf("%s: event %d, %+v, isn't its own, but told: %v", name, i, script[i], outs)
		}
	}
	if !same(with, alone) {
		t.Fatalf("%s: with others:\n%v\nalone:\n%v", name, with, alone)
	}
	return with
}

// P21.2: what is told of a tenant at its places is what is told of it alone; at other places nothing is.
func TestWithOthers(t *testing.T) {
	counts := map[string]int{}
	for seed := range 600 {
		m := newMaker(seed)
		script := m.script(250)
		for _, name := range m.names {
			for _, outs := range holdAlone(t, m.text, script, name) {
				for _, o := range outs {
					counts[fmt.Sprint(name, o.Kind)]++
				}
			}
		}
	}
	for kind := api.Write; kind <= api.Refused; kind++ {
		for _, name := range []string{"a", "b", "c"} {
			if n := counts[fmt.Sprint(name, kind)]; n < 20 {
				t.Errorf("outs of kind %d of %s come only %d times", kind, name, n)
			}
		}
	}
}

// P1, P21.2: so it is of events whose numbers and bytes are far out.
func TestFarOut(t *testing.T) {
	r := rand.New(rand.NewSource(21))
	numbers := []int{math.MinInt, -1 << 31, -1, 0, 1, 1, 2, 2, 3, 64, 1<<31 - 1, 1 << 31, 1 << 40, math.MaxInt}
	texts := []string{"", get("h"), get("i"), get("x"), get("h")[:9], get("h")[9:], ordinary, ok, "\n", "\x00\xff", strings.Repeat("x", 3000), strings.Repeat(get("h"), 300), strings.Repeat("HTTP/1.1 100 x\r\n\r\n", 300)}
	for range 300 {
		var script []api.Event
		pick := func() int { return numbers[r.Intn(len(numbers))] }
		for range 150 {
			e := api.Event{Kind: r.Intn(13), Conn: pick(), Tenant: []string{"a", "b", "", "c"}[r.Intn(4)], H: pick(), N: pick(), Data: []byte(texts[r.Intn(len(texts))])}
			if r.Intn(50) == 0 {
				e.Kind = pick()
			}
			script = append(script, e)
		}
		script = append(script, upload("a", ordinary), upload("b", ordinary))
		r.Shuffle(len(script), func(i, j int) { script[i], script[j] = script[j], script[i] })
		read := newReader(two)
		for i, outs := range story.Run(two, script)[1:] {
			read.take(script[i], outs)
		}
		if owners := story.Owners(two, script); !slices.Equal(owners, read.names) {
			t.Fatalf("owners:\n%q\nwant:\n%q", owners, read.names)
		}
		holdAlone(t, two, script, "a")
		holdAlone(t, two, script, "b")
	}
}

// P21.2: so it is of one beside another who takes all that it may, and of that one, whose connections its cell refuses.
func TestGreedy(t *testing.T) {
	var script []api.Event
	script = append(script, upload("a", ordinary), upload("b", ordinary))
	quiet := []api.Event{accept(1), opens(1, 1000), says(1, get("h")), of(api.Joined, "a", 1, ""), ticks(2), of(api.Said, "a", 1, ok), round(), says(1, get("h")), ticks(9), round(), ends(1)}
	next := 2
	for _, e := range quiet {
		for range 50 {
			script = append(script, accept(next), opens(next, 1<<30), says(next, get("i")+strings.Repeat("x", 900)), of(api.Joined, "b", next, ""))
			next++
		}
		script = append(script, e)
	}
	told := holdAlone(t, two, script, "a")
	if len(told) != len(quiet)+2 || len(told[7]) != 1 || told[7][0].Kind != api.Log || len(told[8]) != 1 || told[8][0].Kind != api.Write {
		t.Errorf("a is told of: %v", told)
	}
	holdAlone(t, two, script, "b")
}

// mix lays others' events anew among one tenant's: elsewhere, of other connections; loosely in another order too, and not all of them.
func (m *maker) mix(mine, script []api.Event, places []int, loosely bool) []api.Event {
	rows := make([][]api.Event, len(mine)+1)
	var spots []int
	for range script {
		spots = append(spots, m.Intn(len(rows)))
	}
	if !loosely {
		slices.Sort(spots)
	}
	for i, e := range script {
		if slices.Contains(places, i) || loosely && m.Intn(3) == 0 {
			continue
		}
		// A number of its own, that a life of the tenant's doesn't need.
		e.Conn += 1000
		rows[spots[i]] = append(rows[spots[i]], e)
	}
	var mixed []api.Event
	for i, row := range rows {
		mixed = append(mixed, row...)
		if i < len(mine) {
			mixed = append(mixed, mine[i])
		}
	}
	return mixed
}

// at is what is told at a script's places.
func at(told [][]api.Out, places []int) [][]api.Out {
	var some [][]api.Out
	for _, place := range places {
		some = append(some, told[place+1])
	}
	return some
}

// P21.3: scripts with the same Only tell the same of the tenant.
func TestSameOnly(t *testing.T) {
	var kept [3]int
	for seed := range 400 {
		m := newMaker(seed)
		script := m.script(250)
		for _, name := range m.names {
			mine, places := story.Only(m.text, script, name)
			want := at(story.Of(story.Run(m.text, script), name), places)
			for i, other := range [][]api.Event{mine, m.mix(mine, script, places, false), m.mix(mine, script, places, true)} {
				events, there := story.Only(m.text, other, name)
				if same := reflect.DeepEqual(events, mine); i == 0 && !same {
					t.Fatalf("seed %d: of Only of %s Only is other", seed, name)
				} else if !same {
					continue // what was laid anew has become a request of the tenant's
				}
				kept[i]++
				if got := at(story.Of(story.Run(m.text, other), name), there); !same(got, want) {
					t.Fatalf("seed %d: of %s is told:\n%v\nwant:\n%v", seed, name, got, want)
				}
			}
		}
	}
	if kept[1] < 500 || kept[2] < 100 {
		t.Errorf("of %d scripts %d in their order, %d in another have the same", kept[0], kept[1], kept[2])
	}
}

// P4: connections, handles and what a round writes keep a tenant's bounds.
func TestBounds(t *testing.T) {
	for seed := range 400 {
		m := newMaker(seed)
		script := m.script(250)
		r := newReader(m.text)
		handles := map[string]map[int]bool{} // is it joined
		for _, s := range r.slots {
			handles[s.Name] = map[int]bool{}
		}
		for i, outs := range story.Run(m.text, script)[1:] {
			e := script[i]
			if joined, there := handles[e.Tenant][e.H]; there {
				switch {
				case e.Kind == api.Joined:
					handles[e.Tenant][e.H] = true
				case e.Kind == api.Gone || e.Kind == api.Failed && !joined:
					delete(handles[e.Tenant], e.H)
				}
			}
			wrote := map[string]int{}
			for _, o := range outs {
				switch o.Kind {
				case api.Dial:
					handles[o.Tenant][o.H] = false
				case api.Hang:
					delete(handles[o.Tenant], o.H)
				case api.Write:
					wrote[o.Tenant] += len(o.Data)
				}
				if place := table.Named(r.slots, o.Tenant); place >= 0 && len(handles[o.Tenant]) > r.slots[place].Pool {
					t.Fatalf("seed %d, event %d: %s has %d handles", seed, i, o.Tenant, len(handles[o.Tenant]))
				}
			}
			r.take(e, outs)
			conns := map[string]int{}
			for _, l := range r.here {
				conns[l.name]++
			}
			for _, s := range r.slots {
				if conns[s.Name] > s.Conns || e.Kind == api.Round && wrote[s.Name] >= s.Quantum+api.Segment {
					t.Fatalf("seed %d, event %d: %s has %d connections, %d written", seed, i, s.Name, conns[s.Name], wrote[s.Name])
				}
			}
		}
	}
}

// apart tells whether two texts have no memory in common.
func apart(a, b string) bool {
	if a == "" || b == "" {
		return true
	}
	from, to := uintptr(unsafe.Pointer(unsafe.StringData(a))), uintptr(unsafe.Pointer(unsafe.StringData(b)))
	return from >= to+uintptr(len(b)) || to >= from+uintptr(len(a))
}

// spoil writes over all of a list, its spare room too.
func spoil(b []byte, with byte) {
	b = b[:cap(b)]
	for i := range b {
		b[i] = with
	}
}

// spoilOuts writes over all lists of an answer, spare room too, and tells whether two share memory.
func spoilOuts(all [][]api.Out) bool {
	all = all[:cap(all)]
	n, shared := 0, false
	for _, outs := range all {
		for _, o := range outs {
			spoil(o.Data, byte(n))
			n++
		}
	}
	n = 0
	for _, outs := range all {
		for _, o := range outs {
			for _, b := range o.Data[:cap(o.Data)] {
				shared = shared || b != byte(n)
			}
			n++
		}
	}
	for i, outs := range all {
		outs = outs[:cap(outs)]
		for j := range outs {
			shared = shared || outs[j].Kind == 1000
			outs[j] = api.Out{Kind: 1000}
		}
		all[i] = nil
	}
	return shared
}

// lent is a script with something behind its length, and behind that of each of its lists.
func lent(script []api.Event) []api.Event {
	room := make([]api.Event, 0, len(script)+2)
	for _, e := range script {
		b := append(append(make([]byte, 0, len(e.Data)+9), e.Data...), "behind"...)
		e.Data = b[:len(e.Data)]
		e.Tenant = strings.Clone(e.Tenant)
		room = append(room, e)
	}
	return append(room, accept(5), accept(6))[:len(script)]
}

// stays tells whether a script that was lent is as another, behind its lengths too.
func stays(script, like []api.Event) bool {
	for i, e := range script {
		if string(e.Data[:len(e.Data)+6]) != string(like[i].Data)+"behind" {
			return false
		}
		e.Data, e.Tenant = like[i].Data, strings.Clone(e.Tenant)
		if !reflect.DeepEqual(e, like[i]) {
			return false
		}
	}
	return reflect.DeepEqual(script[:len(script)+2][len(script):], []api.Event{accept(5), accept(6)})
}

// P21.4, P2: arguments stay, what is answered is the caller's, and the same is answered again.
func TestMemory(t *testing.T) {
	for seed := range 150 {
		m := newMaker(seed)
		plainly := m.script(200)
		script, text := lent(plainly), strings.Clone(m.text)
		name := m.names[seed%len(m.names)]
		want, names := story.Run(text, script), story.Owners(text, script)
		events, places := story.Only(text, script, name)
		for range 2 {
			outs := story.Run(text, script)
			if !same(outs, want) {
				t.Fatalf("seed %d: Run tells something else: %v", seed, outs)
			}
			mine := story.Of(outs, name)
			if spoilOuts(mine) || !same(outs, want) {
				t.Fatalf("seed %d: Of shares memory", seed)
			}
			mine = story.Of(outs, name)
			if spoilOuts(outs) || !same(mine, story.Of(want, name)) || !stays(script, plainly) {
				t.Fatalf("seed %d: Run shares memory", seed)
			}
			holdOwn(t, text, script, name, names)
			got, at := story.Only(text, script, name)
			if !reflect.DeepEqual(got, events) || !slices.Equal(at, places) {
				t.Fatalf("seed %d: Only answers something else", seed)
			}
			for i, e := range got {
				if !apart(e.Tenant, script[at[i]].Tenant) {
					t.Fatalf("seed %d: a name of Only is the script's", seed)
				}
				spoil(e.Data, byte(i))
			}
			for i, e := range got {
				for _, b := range e.Data[:cap(e.Data)] {
					if b != byte(i) {
						t.Fatalf("seed %d: two lists of Only share memory", seed)
					}
				}
			}
			for i := range got[:cap(got)] {
				got[:cap(got)][i] = api.Event{Kind: 99}
			}
			for i := range at[:cap(at)] {
				at[:cap(at)][i] = -9
			}
			if !stays(script, plainly) || text != m.text {
				t.Fatalf("seed %d: what was handed in is changed", seed)
			}
		}
	}
}

// holdOwn holds the texts that Owners, Alone and Of answer against those that were handed in: they are others.
func holdOwn(t *testing.T, text string, script []api.Event, name string, names []string) {
	t.Helper()
	owners := story.Owners(text, script)
	if !slices.Equal(owners, names) {
		t.Fatal("Owners answers something else")
	}
	for i, owner := range owners {
		if !apart(owner, script[i].Tenant) || !apart(owner, text) {
			t.Fatal("a name of Owners was handed in")
		}
	}
	for i := range owners[:cap(owners)] {
		owners[:cap(owners)][i] = "over"
	}
	if alone := story.Alone(text, name); alone == "" || !apart(alone, text) {
		t.Fatal("the text of Alone was handed in")
	}
	o := api.Out{Kind: api.Dial, Tenant: strings.Clone("ab"), Text: strings.Clone("cd")}
	got := story.Of([][]api.Out{{o}}, "ab")
	if !apart(got[0][0].Tenant, o.Tenant) || !apart(got[0][0].Text, o.Text) {
		t.Fatal("a text of Of was handed in")
	}
}

// P21.4: Of leaves what is handed in as it is, behind its lengths too, and keeps none of it.
func TestOfStays(t *testing.T) {
	whole := func() [][]api.Out {
		first := []api.Out{closed(1, "a"), written(2, "a", append([]byte("xy"), "behind"...)[:2]), logged("b", "x"), closed(9, "behind")}
		return [][]api.Out{first[:3], {written(3, "a", []byte("z"))}, {closed(8, "a")}}
	}
	outs := whole()
	got := story.Of(outs[:2], "a")
	if !reflect.DeepEqual(outs, whole()) || outs[0][:4][3].Tenant != "behind" || string(outs[0][1].Data[:8]) != "xybehind" || len(outs[:3][2]) != 1 {
		t.Errorf("changed: %v", outs)
	}
	spoilOuts(outs)
	if want := [][]api.Out{{closed(1, "a"), written(2, "a", []byte("xy"))}, {written(3, "a", []byte("z"))}}; !same(got, want) {
		t.Errorf("kept: %v", got)
	}
}
