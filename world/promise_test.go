package world_test

import (
	"bytes"
	"fmt"
	"math"
	"math/rand"
	"slices"
	"strconv"
	"strings"
	"testing"
	"unsafe"

	"tollbar/api"
	"tollbar/entry"
	"tollbar/gate"
	"tollbar/http"
	"tollbar/world"
)

// model says again what the chapter says of a world. It keeps all that a gate has told, and looks there.
type model struct {
	gate  *gate.Gate
	told  []api.Out
	known map[int]bool
	born  map[int]int // how much had been told when a number's last life began
	waits []api.Out
	fates map[string]*[]int
}

func newModel(text string, names []string) *model {
	g, _ := gate.New(text)
	m := &model{gate: g, known: map[int]bool{}, born: map[int]int{}, fates: map[string]*[]int{}}
	for _, name := range names {
		m.fates[name] = &[]int{}
	}
	return m
}

func (m *model) event(e api.Event) {
	outs := m.gate.Do(e)
	m.told = append(m.told, outs...)
	for _, o := range outs {
		switch o.Kind {
		case api.Close:
			m.known[o.Conn] = false
		case api.Dial, api.Send:
			m.waits = append(m.waits, o)
		}
	}
}

func (m *model) Do(s world.Step) api.Errno {
	switch s.Kind {
	case 1:
		m.event(api.Event{Kind: api.Upload, Tenant: s.Tenant, Data: s.Data})
	case 2:
		if !m.known[s.Conn] && s.Conn >= 1 && s.Conn < 1<<31 {
			m.known[s.Conn], m.born[s.Conn] = true, len(m.told)
		}
		m.event(api.Event{Kind: api.Accept, Conn: s.Conn})
		m.event(api.Event{Kind: api.Window, Conn: s.Conn, N: s.N})
	case 3:
		m.event(api.Event{Kind: api.Bytes, Conn: s.Conn, Data: s.Data})
	case 4:
		m.event(api.Event{Kind: api.End, Conn: s.Conn})
		m.known[s.Conn] = false
	case 5:
		m.event(api.Event{Kind: api.Window, Conn: s.Conn, N: s.N})
	case 6:
		m.event(api.Event{Kind: api.Tick, N: s.N})
	case 7:
		for i := 0; i < s.N && i < 50; i++ {
			m.event(api.Event{Kind: api.Round})
		}
	case 8:
		if fates := m.fates[s.Tenant]; fates != nil && len(*fates) < 100 {
			*fates = append(*fates, s.N)
		}
	case 9:
		for i := 0; i < s.N && i < 200 && len(m.waits) > 0; i++ {
			o := m.waits[0]
			m.waits = m.waits[1:]
			m.answer(o, m.fates[o.Tenant])
		}
	default:
		return 1
	}
	return 0
}

// answer answers what waits, by the first of a tenant's fates.
func (m *model) answer(o api.Out, fates *[]int) {
	fate := 0
	if len(*fates) > 0 {
		fate = (*fates)[0]
		if o.Kind == api.Send || fate == 1 {
			*fates = (*fates)[1:]
		}
	}
	come := func(kind int, b string) {
		m.event(api.Event{Kind: kind, Tenant: o.Tenant, H: o.H, Data: []byte(b)})
	}
	whole := response(o.Data, "")
	switch {
	case o.Kind == api.Dial && fate == 1:
		come(api.Failed, "")
	case o.Kind == api.Dial:
		come(api.Joined, "")
	case fate == 2:
		come(api.Gone, "")
	case fate == 3:
	case fate == 4:
		come(api.Said, "?\r\n\r\n")
	case fate == 5:
		for _, b := range []byte(whole) {
			come(api.Said, string([]byte{b}))
		}
	case fate == 6:
		come(api.Said, response(o.Data, "Connection: close\r\n"))
	case fate == 7:
		come(api.Said, whole[:len(whole)/2])
		come(api.Gone, "")
	default:
		come(api.Said, whole)
	}
}

func response(sent []byte, closes string) string {
	r, n, _ := http.Request(sent)
	if n == 0 {
		return ""
	}
	body := fmt.Sprintf("%s %s %s", r.Method, r.Target, r.Body)
	head := fmt.Sprintf("HTTP/1.1 200 OK\r\nContent-Length: %d\r\n%s\r\n", len(body), closes)
	if r.Method == "HEAD" {
		return head
	}
	return head + body
}

// show is all that a world tells of some clients and tenants, in a line each.
func show(w *world.World, ids []int, names []string) string {
	var all strings.Builder
	fmt.Fprintf(&all, "%d wait\n", w.Waits())
	for _, id := range ids {
		fmt.Fprintf(&all, "%d: %q %v %d, of %q, %d loose\n", id, w.Stream(id), w.Closed(id), w.Paused(id), w.Gate().Owner(id), w.Gate().Loose(id))
	}
	for _, name := range names {
		fmt.Fprintf(&all, "%q: %+v", name, w.Log(name))
		if c := w.Gate().Cell(name); c != nil {
			fmt.Fprintf(&all, " %d %d %d %d", c.Held(), c.Conns(), c.Handles(), c.Now())
		}
		all.WriteString("\n")
	}
	return all.String()
}

// show is the same as the model has it.
func (m *model) show(ids []int, names []string) string {
	var all strings.Builder
	fmt.Fprintf(&all, "%d wait\n", len(m.waits))
	for _, id := range ids {
		stream, closed, paused := "", false, 0
		for _, o := range m.told[m.born[id]:] {
			switch {
			case o.Conn != id:
			case o.Kind == api.Write:
				stream += string(o.Data)
			case o.Kind == api.Close:
				closed = true
			case o.Kind == api.Pause:
				paused++
			}
		}
		fmt.Fprintf(&all, "%d: %q %v %d, of %q, %d loose\n", id, stream, closed, paused, m.gate.Owner(id), m.gate.Loose(id))
	}
	for _, name := range names {
		var log []api.Entry
		for _, o := range m.told {
			if o.Kind == api.Log && o.Tenant == name {
				e, _ := entry.Read(o.Data)
				log = append(log, e)
			}
		}
		fmt.Fprintf(&all, "%q: %+v", name, log)
		if c := m.gate.Cell(name); c != nil {
			fmt.Fprintf(&all, " %d %d %d %d", c.Held(), c.Conns(), c.Handles(), c.Now())
		}
		all.WriteString("\n")
	}
	return all.String()
}

// maker makes scripts in which all things come.
type maker struct {
	*rand.Rand
	names  []string
	toCome map[int]string // of a client, what it hasn't said yet
	asked  int            // how many requests were made: each has its number in its target
	well   bool           // upstreams answer well
}

func newMaker(seed int, well bool) *maker {
	m := &maker{Rand: rand.New(rand.NewSource(int64(seed))), toCome: map[int]string{}, well: well}
	m.names = []string{"b", "a", "c"}[:1+m.Intn(3)]
	return m
}

func (m *maker) pick(several ...string) string { return several[m.Intn(len(several))] }

// text is a table's: each tenant x has the hosts x and x.x.
func (m *maker) text() string {
	var text strings.Builder
	for _, name := range m.names {
		fmt.Fprintf(&text, "slot %s %s %d %d %d %d %s %s %s.%s\n", name, m.pick("256", "400", "700", "1500", "3000", "20000", "20000"),
			1+m.Intn(6), 1+m.Intn(4), 1+m.Intn(3), 1+m.Intn(20), m.pick("1", "64", "100", "500", "5000"), name, name, name)
	}
	return text.String()
}

func (m *maker) conf() string {
	if m.Intn(12) == 0 {
		return m.pick("", "x\n", "total 1\n")
	}
	text := m.pick("up u a b\nroute / u /\n", "up u a\nup v b\nroute /a v /\nroute / u /n\n", "up u a\nroute /a u /x\n")
	text += m.pick("", "", "set X-Y z\ndrop A\n")
	if !m.well && m.Intn(9) == 0 {
		for i := range 3 {
			text += fmt.Sprintf("set X%d %s\n", i, strings.Repeat("x", 900))
		}
	}
	return text + fmt.Sprintf("total %d\ntries %d\nfails %d\ncool %d\n", 1+m.Intn(30), m.Intn(4), 1+m.Intn(3), m.Intn(9))
}

func (m *maker) request(name string) string {
	if m.Intn(25) == 0 {
		return m.pick("BAD\r\n", "GET / HTTP/1.1\r\n\r\n", "GET / HTTP/2.0\r\n\r\n", "\n", "GET /"+strings.Repeat("x", 600)+" HTTP/1.1\r\n", "GET / HTTP/1.1\r\n"+strings.Repeat("X: "+strings.Repeat("x", 300)+"\r\n", 7))
	}
	if m.Intn(20) == 0 {
		name = m.pick("x", "d", "a.b", "a", "b", "c")
	}
	m.asked++
	method := m.pick("GET", "GET", "GET", "PUT", "POST", "HEAD", "OPTIONS")
	text := fmt.Sprintf("%s %s?%d HTTP/1.%s\r\nHost: %s\r\n", method, m.pick("/", "/a", "/a/b"), m.asked, m.pick("1", "1", "1", "1", "0"), m.pick(name, name+"."+name, strings.ToUpper(name)+":80"))
	text += m.pick("", "", "", "", "", "Connection: keep-alive\r\n", "Connection: close\r\n")
	if method != "PUT" && method != "POST" {
		return text + "\r\n"
	}
	body := strings.Repeat(m.pick("b", "\r\n", "HTTP/1.1 200 OK\r\n\r\n"), m.Intn(40))
	if m.Intn(20) == 0 {
		body = strings.Repeat("c", 4000+m.Intn(96))
	}
	text += m.pick("", "", "Expect: 100-continue\r\n")
	if strings.Contains(text, "1.1\r") && m.Intn(3) == 0 {
		return text + fmt.Sprintf("Transfer-Encoding: chunked\r\n\r\n%x\r\n%s\r\n0\r\n\r\n", len(body), body)
	}
	return text + "Content-Length: " + strconv.Itoa(len(body)) + "\r\n\r\n" + body
}

// asks is a client's next piece, all that it hasn't said more often than not.
func (m *maker) asks(id int) world.Step {
	if m.toCome[id] == "" || m.Intn(6) == 0 {
		m.toCome[id] += m.request(m.names[id%len(m.names)])
	}
	n := len(m.toCome[id])
	if m.Intn(3) == 0 {
		n = m.Intn(n + 1)
	}
	text := m.toCome[id][:n]
	m.toCome[id] = m.toCome[id][n:]
	return asks(id, text)
}

// step is the next one.
func (m *maker) step() world.Step {
	id, name := 1+m.Intn(9), m.names[m.Intn(len(m.names))]
	switch n := m.Intn(100); {
	case n < 15:
		delete(m.toCome, id)
		return opens(id, m.Intn(400)-20)
	case n < 45:
		return m.asks(id)
	case n < 48:
		return leaves(id)
	case n < 56:
		return window(id, m.Intn(900)-20)
	case n < 61:
		return ticks(m.Intn(8) - 1)
	case n < 71:
		return rounds(m.Intn(5) - 1)
	case n < 78 && m.well:
		return fate(name, 0)
	case n < 78:
		return fate(m.pick(name, name, name, "x", ""), m.Intn(10)-1)
	case n < 95:
		return reacts(m.Intn(6) - 1)
	case n < 98:
		return upload(m.pick(name, name, name, "x"), m.conf())
	}
	return world.Step{Kind: m.Intn(20) - 5, Conn: m.Intn(12) - 2, Tenant: m.pick("", "x", "A"), N: m.Intn(3), Data: []byte("GET")}
}

// script is n steps, of which the first are configurations.
func (m *maker) script(n int) []world.Step {
	var script []world.Step
	for _, name := range m.names {
		script = append(script, upload(name, m.conf()))
	}
	for range n {
		script = append(script, m.step())
	}
	return script
}

var (
	ids   = []int{-1, 0, 1, 2, 3, 4, 5, 6, 7, 8, 9, 10}
	names = []string{"", "a", "b", "c", "x", "A"}
)

// P22.1, P2: in every order steps do as said.
func TestModel(t *testing.T) {
	counts := map[string]int{}
	for seed := range 400 {
		m := newMaker(seed, seed%4 == 0)
		text := m.text()
		w, like := made(t, text), newModel(text, m.names)
		for i, s := range m.script(250) {
			if got, want := w.Do(s), like.Do(s); got != want {
				t.Fatalf("seed %d, step %d: error %d, want %d", seed, i, got, want)
			}
			if got, want := show(w, ids, names), like.show(ids, names); got != want {
				t.Fatalf("seed %d, step %d, %+v:\n%s\nwant:\n%s", seed, i, s, got, want)
			}
		}
		for _, name := range m.names {
			for _, e := range w.Log(name) {
				counts[fmt.Sprint("code ", e.Code)]++
			}
		}
		for _, o := range like.told {
			counts[fmt.Sprint("out ", o.Kind)]++
		}
	}
	for _, code := range []int{0, 200, 400, 404, 421, 429, 502, 503, 504} {
		if n := counts[fmt.Sprint("code ", code)]; n < 20 {
			t.Errorf("%d comes only %d times", code, n)
		}
	}
	for kind := api.Write; kind <= api.Refused; kind++ {
		if n := counts[fmt.Sprint("out ", kind)]; n < 50 {
			t.Errorf("outs of kind %d come only %d times", kind, n)
		}
	}
}

// P1, P22.1: so it is of steps whose numbers and bytes are far out.
func TestFarOut(t *testing.T) {
	r := rand.New(rand.NewSource(22))
	numbers := []int{math.MinInt, -1 << 31, -1, 0, 1, 1, 2, 2, 3, 7, 64, 1<<31 - 1, 1 << 31, 1 << 40, math.MaxInt}
	texts := []string{"", get, request("PUT", "/", "i", "zz"), request("GET", "/", "x", ""), get[:9], get[9:], ordinary, "\n", "\x00\xff", strings.Repeat("x", 3000), strings.Repeat(get, 300)}
	pick := func() int { return numbers[r.Intn(len(numbers))] }
	for range 200 {
		w, like := made(t, two), newModel(two, []string{"a", "b"})
		script := []world.Step{upload("a", ordinary), upload("b", ordinary)}
		for range 100 {
			s := world.Step{Kind: r.Intn(11), Conn: pick(), N: pick(), Tenant: []string{"a", "b", "", "c"}[r.Intn(4)], Data: []byte(texts[r.Intn(len(texts))])}
			if r.Intn(50) == 0 {
				s.Kind = pick()
			}
			script = append(script, s)
		}
		for i, s := range script {
			if got, want := w.Do(s), like.Do(s); got != want {
				t.Fatalf("step %d, %+v: error %d, want %d", i, s, got, want)
			}
		}
		if got, want := show(w, numbers, names), like.show(numbers, names); got != want {
			t.Fatalf("%s\nwant:\n%s", got, want)
		}
	}
}

// life is what became of a client's number since its last Open that began one.
type life struct {
	id    int
	name  string // whose it is
	in    []byte // what was taken of what it said
	ahead map[string]int
	left  bool
}

// asked is the requests that have come whole, and the status of what stands behind them.
func (l *life) asked() ([]api.Req, int) {
	var all []api.Req
	rest := l.in
	for {
		r, n, status := http.Request(rest)
		if n == 0 {
			return all, status
		}
		all = append(all, r)
		rest = rest[n:]
	}
}

// told is the whole responses of a stream to such requests, but those that only say that one will come, and what stands behind.
func told(stream []byte, asked []api.Req) ([]api.Resp, []byte) {
	var all []api.Resp
	for len(stream) > 0 {
		method := "GET"
		if len(all) < len(asked) {
			method = asked[len(all)].Method
		}
		r, n, right := http.Response(stream, method, false)
		if n == 0 || !right {
			break
		}
		if r.Code >= 200 {
			all = append(all, r)
		}
		stream = stream[n:]
	}
	return all, stream
}

// watch does a script, and notes each number's last life.
func watch(t *testing.T, w *world.World, script []world.Step) map[int]*life {
	t.Helper()
	lives := map[int]*life{}
	for _, s := range script {
		known := w.Gate().Owner(s.Conn) != "" || w.Gate().Loose(s.Conn) >= 0
		paused := w.Paused(s.Conn)
		w.Do(s)
		l := lives[s.Conn]
		switch {
		case s.Kind == world.Open && !known && w.Gate().Loose(s.Conn) == 0:
			lives[s.Conn] = &life{id: s.Conn, ahead: map[string]int{}}
			for _, name := range names {
				lives[s.Conn].ahead[name] = len(w.Log(name))
			}
		case s.Kind == world.Ask && known && w.Paused(s.Conn) == paused:
			l.in = append(l.in, s.Data...)
		case s.Kind == world.Leave && known:
			l.left = true
		}
		for id, l := range lives {
			if name := w.Gate().Owner(id); name != "" {
				l.name = name
			}
		}
	}
	return lives
}

// settle opens all windows, lets all that waits be answered, and all be written.
func settle(t *testing.T, w *world.World) {
	t.Helper()
	for _, id := range ids {
		w.Do(window(id, 1<<30))
	}
	for i := 0; w.Waits() > 0; i++ {
		if i > 1000 {
			t.Fatal("it is never answered")
		}
		w.Do(reacts(200))
	}
	for last := ""; ; {
		// A quantum of 1 is a piece in 64 rounds.
		w.Do(rounds(50))
		w.Do(rounds(50))
		now := show(w, ids, nil)
		if now == last {
			return
		}
		last = now
	}
}

// check holds the responses and records of a life against its requests.
func (l *life) check(t *testing.T, w *world.World) int {
	t.Helper()
	asked, status := l.asked()
	got, rest := told(w.Stream(l.id), asked)
	stays := !w.Closed(l.id) && !l.left
	if stays && (len(got) != len(asked) || status != 0 || len(rest) > 0) {
		t.Fatalf("client %d: %d responses to %d requests, %q behind; it asked %q, was told %q", l.id, len(got), len(asked), rest, l.in, w.Stream(l.id))
	}
	if len(got) > len(asked)+1 || len(got) > len(asked) && !w.Closed(l.id) {
		t.Fatalf("client %d: %d responses to %d requests: %q", l.id, len(got), len(asked), w.Stream(l.id))
	}
	for i, r := range got[:min(len(got), len(asked))] {
		_, number, _ := strings.Cut(asked[i].Target, "?")
		mark := number + " " + string(asked[i].Body)
		if r.Code == 200 && asked[i].Method != "HEAD" && !(strings.HasPrefix(string(r.Body), asked[i].Method+" ") && strings.HasSuffix(string(r.Body), mark)) {
			t.Fatalf("client %d: response %d to %q is %q", l.id, i, asked[i].Target, r.Body)
		}
	}
	l.checkRecords(t, w, asked, got, stays)
	if stays {
		return len(got)
	}
	return 0
}

// checkRecords holds a life's records against its requests and responses.
func (l *life) checkRecords(t *testing.T, w *world.World, asked []api.Req, got []api.Resp, stays bool) {
	t.Helper()
	i := 0
	for _, e := range w.Log(l.name)[l.ahead[l.name]:] {
		if e.Conn != l.id {
			continue
		}
		if i < len(got) && e.Code != got[i].Code || e.Method != "-" && (e.Method != asked[i].Method || e.Target != asked[i].Target) {
			t.Fatalf("client %d: record %d is %+v", l.id, i, e)
		}
		i++
	}
	if stays && i != len(asked) {
		t.Fatalf("client %d: %d records of %d requests", l.id, i, len(asked))
	}
}

// P22.2: when all has been answered and written, each client has just one response for each request, in their order, or is closed.
func TestResponses(t *testing.T) {
	stay, responses := 0, 0
	for seed := range 1500 {
		m := newMaker(seed, true)
		w := made(t, m.text())
		lives := watch(t, w, m.script(50+m.Intn(200)))
		settle(t, w)
		for _, l := range lives {
			if n := l.check(t, w); n > 1 {
				stay++
				responses += n
			}
		}
	}
	if stay < 800 || responses < 2000 {
		t.Errorf("only %d clients stay, with %d responses", stay, responses)
	}
}

// P22.2: so it is of many clients that ask without an end, of a tenant that has room for them.
func TestPipelines(t *testing.T) {
	w := made(t, "slot a 1048576 64 64 1048576 1048576 1000 h\n")
	does(t, w, upload("a", ordinary))
	for id := 1; id <= 60; id++ {
		does(t, w, opens(id, id))
	}
	want := map[int]string{}
	for i := range 600 {
		id, target := 1+i*7%60, fmt.Sprintf("/%d", i)
		does(t, w, asks(id, request("PUT", target, "h", "x")))
		want[id] += answered("PUT", target, "x")
	}
	for id := 1; id <= 60; id++ {
		does(t, w, window(id, 1<<30))
	}
	for w.Waits() > 0 {
		does(t, w, reacts(200))
	}
	does(t, w, rounds(50))
	for id, stream := range want {
		stands(t, w, id, stream, false, 0)
	}
}

// P22.3, P2: the same steps make the same world, whatever is done with others meanwhile.
func TestSame(t *testing.T) {
	for seed := range 150 {
		m := newMaker(seed, false)
		text := m.text()
		script := m.script(150)
		n := newMaker(seed+1000, false)
		first, other := made(t, text), made(t, n.text())
		var all []string
		for i, s := range script {
			first.Do(s)
			other.Do(n.step())
			if i%10 == 0 || i == len(script)-1 {
				all = append(all, show(first, ids, names))
			}
		}
		again := made(t, text)
		for i, s := range script {
			again.Do(s)
			if i%10 == 0 || i == len(script)-1 {
				if got := show(again, ids, names); got != all[0] {
					t.Fatalf("seed %d, step %d:\n%s\nwant:\n%s", seed, i, got, all[0])
				}
				all = all[1:]
			}
		}
	}
}

// spoil writes over all of a list, its spare room too.
func spoil(b []byte) {
	b = b[:cap(b)]
	for i := range b {
		b[i] = '!'
	}
}

// lent is a text whose memory may be written over.
func lent(s string) (string, []byte) {
	b := []byte(s)
	return unsafe.String(unsafe.SliceData(b), len(b)), b
}

// spoilAnswers writes over all that a world answers, spare room too.
func spoilAnswers(w *world.World) {
	for _, id := range ids {
		spoil(w.Stream(id))
	}
	for _, name := range names {
		log := w.Log(name)
		for _, e := range log {
			if e.Method != "" {
				spoil(unsafe.Slice(unsafe.StringData(e.Method), len(e.Method)))
				spoil(unsafe.Slice(unsafe.StringData(e.Target), len(e.Target)))
			}
		}
		log = log[:cap(log)]
		for i := range log {
			log[i] = api.Entry{Seq: -1}
		}
	}
}

// P22.4: what is handed in is neither changed nor kept, and what is answered is the caller's.
func TestMemory(t *testing.T) {
	for seed := range 200 {
		m := newMaker(seed, false)
		text := m.text()
		plain := made(t, text)
		handed, room := lent(text)
		w := made(t, handed)
		if string(room) != text {
			t.Fatal("the table's text is changed")
		}
		spoil(room)
		for i, s := range m.script(150) {
			plain.Do(s)
			like := bytes.Clone(s.Data)
			data := append(append(make([]byte, 0, len(like)+9), like...), "behind"...)
			s.Data = data[:len(like)]
			name, room := lent(s.Tenant)
			was := s.Tenant
			s.Tenant = name
			w.Do(s)
			if string(data) != string(like)+"behind" || string(room) != was {
				t.Fatalf("seed %d, step %d: what was handed in is changed", seed, i)
			}
			spoil(data)
			spoil(room)
			if i%5 == 0 {
				spoilAnswers(w)
				if got, want := show(w, ids, names), show(plain, ids, names); got != want {
					t.Fatalf("seed %d, step %d:\n%s\nwant:\n%s", seed, i, got, want)
				}
			}
		}
	}
}

// P22.4: answers of two calls, and what comes behind, share no room.
func TestMemoryOfStream(t *testing.T) {
	w := town(t)
	does(t, w, opens(1, 20), asks(1, get+get), reacts(9), rounds(1))
	first, second := w.Stream(1), w.Stream(1)
	_ = append(first[:5], "spoilt"...)
	_ = append(second, strings.Repeat("spoilt", 99)...)
	does(t, w, window(1, 1000), rounds(9))
	stands(t, w, 1, answered("GET", "/", "")+answered("GET", "/", ""), false, 0)
	log := w.Log("a")
	log[0].Code = 7
	_ = append(log[:1], api.Entry{}, api.Entry{}, api.Entry{})
	if got := w.Log("a"); len(got) != 2 || got[0].Code != 200 || got[1].Seq != 2 || !slices.Equal(got, w.Log("a")) {
		t.Errorf("%v", got)
	}
}
