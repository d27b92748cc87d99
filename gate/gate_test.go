package gate_test

import (
	"fmt"
	"math"
	"strings"
	"testing"

	"tollbar/api"
	"tollbar/gate"
	"tollbar/http"
	"tollbar/scrub"
)

const (
	// b stands ahead of a, so that the table's order isn't that of the names.
	two      = "slot b 3000 2 2 5 5 300 i j.example\nslot a 3000 2 2 5 5 300 h\n"
	ordinary = "up u x y\nroute / u /\ntotal 9\ntries 1\nfails 3\ncool 5\n"
	ok       = "HTTP/1.1 200 OK\r\nContent-Length: 2\r\n\r\nab"
)

func get(host string) string { return "GET / HTTP/1.1\r\nHost: " + host + "\r\n\r\n" }

func accept(id int) api.Event { return api.Event{Kind: api.Accept, Conn: id} }

func says(id int, s string) api.Event { return api.Event{Kind: api.Bytes, Conn: id, Data: []byte(s)} }

func ends(id int) api.Event { return api.Event{Kind: api.End, Conn: id} }

func opens(id, n int) api.Event { return api.Event{Kind: api.Window, Conn: id, N: n} }

func upload(name, set string) api.Event {
	return api.Event{Kind: api.Upload, Tenant: name, Data: []byte(set)}
}

func of(kind int, name string, h int, s string) api.Event {
	return api.Event{Kind: kind, Tenant: name, H: h, Data: []byte(s)}
}

func ticks(n int) api.Event { return api.Event{Kind: api.Tick, N: n} }

func round() api.Event { return api.Event{Kind: api.Round} }

// one is what an out says in a line, its tenant first; an out that has more than its kind names says so.
func one(o api.Out) string {
	var text string
	left := o
	switch o.Kind {
	case api.Write:
		text, left.Conn, left.Data = fmt.Sprintf("write %d %q", o.Conn, o.Data), 0, nil
	case api.Pause:
		text, left.Conn = fmt.Sprint("pause ", o.Conn), 0
	case api.Close:
		text, left.Conn = fmt.Sprint("close ", o.Conn), 0
	case api.Dial:
		text, left.H, left.Text = fmt.Sprintf("dial %d %s", o.H, o.Text), 0, ""
	case api.Send:
		text, left.H, left.Data = fmt.Sprintf("send %d %q", o.H, o.Data), 0, nil
	case api.Hang:
		text, left.H = fmt.Sprint("hang ", o.H), 0
	case api.Log:
		text, left.Data = "log "+strings.TrimSuffix(string(o.Data), "\n"), nil
	case api.Taken:
		text = "taken"
	case api.Refused:
		text = "refused"
	}
	if left.Conn != 0 || left.H != 0 || left.Text != "" || len(left.Data) != 0 || text == "" {
		return fmt.Sprintf("wrong %+v", o)
	}
	return fmt.Sprintf("[%s] %s", o.Tenant, text)
}

func show(outs []api.Out) string {
	var all []string
	for _, o := range outs {
		all = append(all, one(o))
	}
	return strings.Join(all, ", ")
}

func own(code int) string { return string(http.WriteResponse(scrub.Own(code, true))) }

// want holds what is told against texts.
func want(t *testing.T, outs []api.Out, texts ...string) {
	t.Helper()
	if got := show(outs); got != strings.Join(texts, ", ") {
		t.Fatalf("told:\n%s\nwant:\n%s", got, strings.Join(texts, ", "))
	}
}

// stands holds how a connection stands against whose it is and how many loose bytes it has.
func stands(t *testing.T, g *gate.Gate, id int, owner string, loose int) {
	t.Helper()
	if g.Owner(id) != owner || g.Loose(id) != loose {
		t.Fatalf("connection %d is %q's, %d loose; want %q, %d", id, g.Owner(id), g.Loose(id), owner, loose)
	}
}

// made is a gate of two tenants, each with a configuration.
func made(t *testing.T) *gate.Gate {
	t.Helper()
	g, outs := gate.New(two)
	want(t, outs)
	want(t, g.Do(upload("a", ordinary)), "[a] taken")
	want(t, g.Do(upload("b", ordinary)), "[b] taken")
	return g
}

// P20.1: the chapter's examples.
func TestExamples(t *testing.T) {
	g, outs := gate.New("slot a 3000 2 2 5 5 300 h\n")
	want(t, outs)
	want(t, g.Do(accept(1)))
	want(t, g.Do(says(1, get("h"))), fmt.Sprintf("[a] log 1 0 0 1 GET / 404 0 %d", len(http.WriteResponse(scrub.Own(404, false)))))
	want(t, g.Do(accept(2)))
	want(t, g.Do(says(2, get("x"))), "[] close 2")
}

// P20.1: a request is asked, answered and written; others' events between don't matter.
func TestRequest(t *testing.T) {
	g := made(t)
	want(t, g.Do(accept(7)))
	stands(t, g, 7, "", 0)
	want(t, g.Do(opens(7, 500)))
	want(t, g.Do(says(7, get("h")[:20])))
	stands(t, g, 7, "", 20)
	want(t, g.Do(says(7, get("h")[20:])), "[a] dial 1 x")
	stands(t, g, 7, "a", -1)
	// b's handle 1 isn't there, though a's is.
	want(t, g.Do(of(api.Joined, "b", 1, "")))
	want(t, g.Do(of(api.Joined, "a", 1, "")), fmt.Sprintf("[a] send 1 %q", get("h")))
	want(t, g.Do(of(api.Said, "b", 1, ok)))
	want(t, g.Do(of(api.Said, "a", 1, ok)), "[a] log 1 0 0 7 GET / 200 1 40")
	want(t, g.Do(round()), fmt.Sprintf("[a] write 7 %q", ok))
	want(t, g.Do(of(api.Gone, "a", 1, "")))
	want(t, g.Do(says(7, get("h"))), "[a] dial 2 y")
	want(t, g.Do(of(api.Failed, "b", 2, "")))
	want(t, g.Do(of(api.Failed, "a", 2, "")), "[a] dial 3 x")
	want(t, g.Do(ends(7)), "[a] hang 3", "[a] log 2 0 0 7 GET / 0 3 0")
	stands(t, g, 7, "", -1)
}

// P20.1: Accept is of numbers from 1 to 2^31 - 1 that aren't known.
func TestAccept(t *testing.T) {
	g := made(t)
	for _, id := range []int{0, -1, math.MinInt, 1 << 31, math.MaxInt} {
		want(t, g.Do(accept(id)))
		stands(t, g, id, "", -1)
		want(t, g.Do(says(id, get("h"))))
		stands(t, g, id, "", -1)
	}
	for _, id := range []int{1, 1<<31 - 1} {
		want(t, g.Do(accept(id)))
		stands(t, g, id, "", 0)
	}
	// One that is known stays as it is.
	g.Do(opens(1, 9))
	g.Do(says(1, "GET"))
	want(t, g.Do(accept(1)))
	stands(t, g, 1, "", 3)
	want(t, g.Do(says(1, "\n")), fmt.Sprintf("[] write 1 %q", own(400)[:9]), "[] close 1")
	g.Do(says(1<<31-1, get("i")))
	want(t, g.Do(accept(1<<31-1)))
	stands(t, g, 1<<31-1, "b", -1)
	want(t, g.Do(says(1<<31-1, "GET")))
}

// P20.1: a number whose connection isn't known any more may come again, with nothing of what was.
func TestAgain(t *testing.T) {
	g := made(t)
	for i, gone := range []func(){
		func() { g.Do(ends(1)) },
		func() { g.Do(says(1, "\n")) },
		func() { g.Do(says(1, " / HTTP/1.1\r\nHost: x\r\n\r\n")) },
		func() { g.Do(says(1, " / HTTP/1.1\r\nHost: h\r\n\r\n")); g.Do(ends(1)) },
		func() { g.Do(says(1, " / HTTP/1.1\r\nHost: i\r\n\r\n\n")); g.Do(ends(1)) },
	} {
		want(t, g.Do(accept(1)))
		g.Do(opens(1, 100))
		g.Do(says(1, "GET"))
		stands(t, g, 1, "", 3)
		gone()
		stands(t, g, 1, "", -1)
		want(t, g.Do(says(1, get("h"))))
		want(t, g.Do(ends(1)))
		want(t, g.Do(opens(1, 100)))
		want(t, g.Do(accept(1)))
		stands(t, g, 1, "", 0)
		if got := show(g.Do(says(1, "\n"))); got != "[] close 1" {
			t.Fatalf("way %d: the window is still open: %s", i, got)
		}
	}
}

// P20.1: a connection whose response is still to be written is its tenant's till it is closed.
func TestClosing(t *testing.T) {
	g := made(t)
	g.Do(accept(1))
	bad := "GET / HTTP/1.1\r\nHost: h\r\n\r\n\n"
	want(t, g.Do(says(1, bad)), "[a] dial 1 x")
	want(t, g.Do(of(api.Joined, "a", 1, "")), fmt.Sprintf("[a] send 1 %q", get("h")))
	want(t, g.Do(of(api.Said, "a", 1, ok)), "[a] log 1 0 0 1 GET / 200 1 40", fmt.Sprintf("[a] log 2 0 0 1 - - 400 0 %d", len(own(400))))
	want(t, g.Do(round()))
	want(t, g.Do(accept(1)))
	stands(t, g, 1, "a", -1)
	want(t, g.Do(opens(1, 40)))
	want(t, g.Do(round()), fmt.Sprintf("[a] write 1 %q", ok))
	stands(t, g, 1, "a", -1)
	want(t, g.Do(opens(1, 1000)))
	outs := g.Do(round())
	if one(outs[len(outs)-1]) != "[a] close 1" {
		t.Fatal(show(outs))
	}
	stands(t, g, 1, "", -1)
	want(t, g.Do(accept(1)))
	stands(t, g, 1, "", 0)
}

// P20.1: who gets a connection, by the head with which it begins.
func TestSettle(t *testing.T) {
	const behind = "GE"
	for _, x := range []struct{ head, owner, told string }{
		{get("h"), "a", "[a] dial 1 x"},
		{get("H:80"), "a", "[a] dial 1 x"},
		{get("i"), "b", "[b] dial 1 x"},
		{get("J.Example"), "b", "[b] dial 1 x"},
		{"GET / HTTP/1.0\r\nHost: h\r\n\r\n", "a", "[a] dial 1 x"},
		// A body isn't waited for, nor looked at: the cell does that.
		{"PUT / HTTP/1.1\r\nHost: h\r\nContent-Length: 9\r\n\r\n", "a", ""},
		{"PUT / HTTP/1.1\r\nHost: h\r\nTransfer-Encoding: chunked\r\n\r\nz\r\n", "a", fmt.Sprintf("[a] log 1 0 0 1 - - 400 0 %d", len(own(400)))},
		{get("h.example"), "", "421"},
		{get("a"), "", "421"},
		{get("j"), "", "421"},
		{"GET / HTTP/1.0\r\n\r\n", "", "421"},
		{"GET / HTTP/1.1\r\n\r\n", "", "400"},
		{"GET / HTTP/1.1\r\nHost: h\r\nHost: h\r\n\r\n", "", "400"},
		{"GET / HTTP/1.1\r\nHost: h\r\nHost: i\r\n\r\n", "", "400"},
		{"GET / HTTP/1.1\r\nHost: \r\n\r\n", "", "400"},
		{"GET / HTTP/1.1\r\nHost: h\r\nContent-Length: 5, 6\r\n\r\n", "", "400"},
		{"GET / HTTP/1.1\r\nHost: h\nX: y\r\n\r\n", "", "400"},
		{"GET / HTTP/2.0\r\nHost: h\r\n\r\n", "", "505"},
		{"GET /" + strings.Repeat("x", 512) + " HTTP/1.1\r\nHost: h\r\n\r\n", "", "414"},
		{"PUT / HTTP/1.1\r\nHost: h\r\nContent-Length: 5000\r\n\r\n", "", "413"},
		{"PUT / HTTP/1.1\r\nHost: h\r\nTransfer-Encoding: gzip\r\n\r\n", "", "501"},
		{"GET / HTTP/1.1\r\nHost: h\r\n" + strings.Repeat("X: y\r\n", 40) + "\r\n", "", "431"},
		{"\r\n" + get("h"), "", "400"},
	} {
		g := made(t)
		g.Do(accept(1))
		g.Do(opens(1, 1000))
		told := x.told
		if x.owner == "" {
			var code int
			fmt.Sscan(x.told, &code)
			told = fmt.Sprintf("[] write 1 %q, [] close 1", own(code))
		}
		if got := show(g.Do(says(1, x.head+behind))); got != told {
			t.Errorf("%q: told:\n%s\nwant:\n%s", x.head, got, told)
		}
		stands(t, g, 1, x.owner, -1)
	}
}

// P20.1: however the bytes come in pieces, the tenant and what is told are the same, told when the head's end comes.
func TestPieces(t *testing.T) {
	for _, head := range []string{get("h"), get("i"), get("x"), "PUT / HTTP/1.1\r\nHost: h\r\nContent-Length: 2\r\n\r\n"} {
		whole := made(t)
		whole.Do(accept(1))
		whole.Do(opens(1, 1000))
		told := show(whole.Do(says(1, head)))
		for step := 1; step < 20; step++ {
			g := made(t)
			g.Do(accept(1))
			g.Do(opens(1, 1000))
			at := 0
			for ; at+step < len(head); at += step {
				want(t, g.Do(says(1, head[at:at+step])))
				stands(t, g, 1, "", at+step)
				want(t, g.Do(says(1, "")))
				stands(t, g, 1, "", at+step)
			}
			if got := show(g.Do(says(1, head[at:]))); got != told {
				t.Fatalf("%q by %d bytes: told:\n%s\nwant:\n%s", head, step, got, told)
			}
			stands(t, g, 1, whole.Owner(1), -1)
		}
	}
}

// P20.1: the cell gets all bytes that have come, and the window.
func TestAdopted(t *testing.T) {
	g := made(t)
	g.Do(accept(1))
	g.Do(opens(1, 20))
	g.Do(opens(1, 10))
	g.Do(says(1, "PUT /"))
	want(t, g.Do(says(1, "p HTTP/1.1\r\nHost: h\r\nContent-Length: 3\r\n\r\nx")))
	if held := g.Cell("a").Held(); held != 48 {
		t.Fatalf("the cell holds %d", held)
	}
	want(t, g.Do(says(1, "yz")), "[a] dial 1 x")
	want(t, g.Do(of(api.Joined, "a", 1, "")), `[a] send 1 "PUT /p HTTP/1.1\r\nHost: h\r\nContent-Length: 3\r\n\r\nxyz"`)
	want(t, g.Do(of(api.Said, "a", 1, ok)), "[a] log 1 0 0 1 PUT /p 200 1 40")
	want(t, g.Do(round()), fmt.Sprintf("[a] write 1 %q", ok[:30]))
	want(t, g.Do(opens(1, 10)))
	want(t, g.Do(round()), fmt.Sprintf("[a] write 1 %q", ok[30:]))
}

// P20.1: what is written of a connection that is refused is as much as its window lets.
func TestWindow(t *testing.T) {
	size := len(own(421))
	for _, x := range []struct {
		opens []int
		wrote int
	}{
		{nil, 0}, {[]int{0}, 0}, {[]int{-1}, 0}, {[]int{math.MinInt}, 0}, {[]int{1}, 1}, {[]int{8}, 8}, {[]int{8, -5}, 8},
		{[]int{-5, 8}, 8}, {[]int{8, math.MinInt, 3}, 11}, {[]int{size - 1}, size - 1}, {[]int{size}, size}, {[]int{size + 1}, size},
		{[]int{1 << 30}, size}, {[]int{1 << 30, 1 << 30, 1 << 30}, size}, {[]int{math.MaxInt}, size}, {[]int{5, math.MaxInt, math.MaxInt}, size},
	} {
		g := made(t)
		g.Do(accept(1))
		for _, n := range x.opens {
			want(t, g.Do(opens(1, n)))
			stands(t, g, 1, "", 0)
		}
		outs := g.Do(says(1, get("x")))
		if x.wrote == 0 {
			want(t, outs, "[] close 1")
			continue
		}
		want(t, outs, fmt.Sprintf("[] write 1 %q", own(421)[:x.wrote]), "[] close 1")
	}
}

// P20.1: a cell that refuses a connection doesn't leave it loose.
func TestRefusedByCell(t *testing.T) {
	g := made(t)
	for id := 1; id <= 3; id++ {
		g.Do(accept(id))
		g.Do(opens(id, 10))
	}
	want(t, g.Do(says(1, get("h"))), "[a] dial 1 x")
	want(t, g.Do(says(2, get("h"))), "[a] dial 2 y")
	want(t, g.Do(says(3, get("h"))), fmt.Sprintf("[a] log 1 0 0 3 - - 503 0 %d", len(own(503))), fmt.Sprintf("[a] write 3 %q", own(503)[:10]), "[a] close 3")
	stands(t, g, 3, "", -1)
	// The same of the quota.
	tight, _ := gate.New("slot a 256 2 2 5 5 300 h\n")
	tight.Do(accept(3))
	want(t, tight.Do(says(3, get("h")+strings.Repeat("x", 256))), fmt.Sprintf("[a] log 1 0 0 3 - - 503 0 %d", len(own(503))), "[a] close 3")
	stands(t, tight, 3, "", -1)
	want(t, tight.Do(accept(3)))
	stands(t, tight, 3, "", 0)
}

// P20.1: a connection that a tenant has stays its own, whatever host is asked for later.
func TestStays(t *testing.T) {
	g := made(t)
	g.Do(accept(1))
	g.Do(opens(1, 1000))
	g.Do(says(1, get("h")))
	g.Do(of(api.Joined, "a", 1, ""))
	g.Do(of(api.Said, "a", 1, ok))
	want(t, g.Do(says(1, get("i"))), fmt.Sprintf("[a] log 2 0 0 1 GET / 421 0 %d", len(own(421))))
	stands(t, g, 1, "a", -1)
	if g.Cell("b").Conns() != 0 {
		t.Error("b has it")
	}
}

// P20.1: Tick and Round are done by all cells, in the table's order.
func TestAll(t *testing.T) {
	var text strings.Builder
	names := strings.Split("p c o d n e m f l g k h j i a b", " ")
	for _, name := range names {
		fmt.Fprintf(&text, "slot %s 3000 2 2 5 5 300 %s.example\n", name, name)
	}
	g, outs := gate.New(text.String())
	want(t, outs)
	for i, name := range names {
		want(t, g.Do(upload(name, ordinary)), "["+name+"] taken")
		// The connections' numbers fall where the places rise.
		id := 100 - i
		g.Do(accept(id))
		g.Do(opens(id, 1000))
		want(t, g.Do(says(id, get(name+".example"))), "["+name+"] dial 1 x")
	}
	want(t, g.Do(ticks(8)))
	var told, writes []string
	b := string(http.WriteResponse(scrub.Own(504, false)))
	for i, name := range names {
		if g.Cell(name).Now() != 8 {
			t.Fatalf("%s is at %d", name, g.Cell(name).Now())
		}
		told = append(told, fmt.Sprintf("[%s] hang 1, [%s] log 1 9 9 %d GET / 504 1 %d", name, name, 100-i, len(b)))
		writes = append(writes, fmt.Sprintf("[%s] write %d %q", name, 100-i, b))
	}
	want(t, g.Do(ticks(1)), told...)
	want(t, g.Do(round()), writes...)
	want(t, g.Do(round()))
}

// P20.1: an upstream's event, and a configuration, is that slot's whose name is told, whatever else it says.
func TestTenant(t *testing.T) {
	g := made(t)
	for id, host := range map[int]string{1: "h", 2: "i"} {
		g.Do(accept(id))
		g.Do(says(id, get(host)))
	}
	for kind := api.Joined; kind <= api.Upload; kind++ {
		for _, name := range []string{"", "c", "A", "h", "i", "a ", "aa", "slot", strings.Repeat("a", 1000)} {
			want(t, g.Do(api.Event{Kind: kind, Conn: 1, Tenant: name, H: 1, N: 1, Data: []byte(ordinary)}))
			if g.Cell(name) != nil {
				t.Fatalf("%q has a cell", name)
			}
		}
	}
	want(t, g.Do(api.Event{Kind: api.Joined, Conn: 1, Tenant: "b", H: 1}), fmt.Sprintf("[b] send 1 %q", get("i")))
	want(t, g.Do(upload("b", "x")), "[b] refused")
	want(t, g.Do(upload("a", "")), "[a] refused")
	want(t, g.Do(upload("a", ordinary)), "[a] taken")
	// A connection's event is that connection's, whatever tenant it tells.
	want(t, g.Do(api.Event{Kind: api.End, Conn: 1, Tenant: "b"}), "[a] hang 1", "[a] log 1 0 0 1 GET / 0 1 0")
	stands(t, g, 2, "b", -1)
	want(t, g.Do(api.Event{Kind: api.Accept, Conn: 5, Tenant: "b"}))
	stands(t, g, 5, "", 0)
	want(t, g.Do(api.Event{Kind: api.Tick, Tenant: "b", N: 3}))
	if g.Cell("a").Now() != 3 || g.Cell("b").Now() != 3 {
		t.Error("a tick isn't everybody's")
	}
}

// P20.1: of other kinds, and of connections that aren't known, nothing is done.
func TestNothing(t *testing.T) {
	g := made(t)
	g.Do(accept(1))
	g.Do(says(1, "GET"))
	g.Do(accept(2))
	g.Do(says(2, get("h")))
	for _, kind := range []int{0, -1, 12, 13, 99, math.MinInt, math.MaxInt, 1<<32 + api.End} {
		for id := range 4 {
			want(t, g.Do(api.Event{Kind: kind, Conn: id, Tenant: "a", H: 1, N: 1, Data: []byte(get("h"))}))
		}
	}
	for _, id := range []int{0, 3, -1, math.MinInt, math.MaxInt} {
		want(t, g.Do(says(id, get("h"))))
		want(t, g.Do(opens(id, 5)))
		want(t, g.Do(ends(id)))
		stands(t, g, id, "", -1)
	}
	stands(t, g, 1, "", 3)
	stands(t, g, 2, "a", -1)
	if g.Cell("a").Now() != 0 || g.Cell("a").Conns() != 1 || g.Cell("a").Handles() != 1 {
		t.Error("something was done")
	}
}

// P20.1: the gate of a text that is no table's does nothing.
func TestRefusedTable(t *testing.T) {
	for _, text := range []string{
		"", "\n", "slot a\n", "x", "slot a 3000 2 2 5 5 300 h", "slot a 3000 2 2 5 5 300\n", "slot a 3000 2 2 5 5 300 H\n", "slot a 255 2 2 5 5 300 h\n",
		"slot a 3000 2 2 5 5 300 h\nslot a 3000 2 2 5 5 300 i\n", "slot a 3000 2 2 5 5 300 h\nslot b 3000 2 2 5 5 300 h\n",
		"slot a 3000 2 2 5 5 300 h\n" + strings.Repeat("x", 5000),
	} {
		g, outs := gate.New(text)
		want(t, outs, "[] refused")
		for range 2 {
			for kind := range 14 {
				want(t, g.Do(api.Event{Kind: kind, Conn: 1, Tenant: "a", H: 1, N: 1, Data: []byte(get("h"))}))
				stands(t, g, 1, "", -1)
			}
		}
		if g.Cell("a") != nil || g.Cell("") != nil {
			t.Errorf("%q has a cell", text)
		}
	}
}

// P20.3: a head has at most 2048 bytes; of more no byte is waited for.
func TestLongHead(t *testing.T) {
	long := func(size int) string {
		head := "GET / HTTP/1.1\r\nHost: h\r\n"
		for len(head) < size-600 {
			head += "X: " + strings.Repeat("x", 200) + "\r\n"
		}
		return head + "X: " + strings.Repeat("x", size-len(head)-len("X: \r\n\r\n")) + "\r\n\r\n"
	}
	for _, x := range []struct {
		size, upTo int
		owner      string
		loose      int
	}{
		{2047, 2046, "", 2046}, {2047, 2047, "a", -1}, {2048, 2047, "", 2047}, {2048, 2048, "a", -1},
		{2049, 2047, "", 2047}, {2049, 2048, "", -1}, {2049, 2049, "", -1}, {9000, 9000, "", -1},
	} {
		for _, bytewise := range []bool{false, true} {
			g := made(t)
			g.Do(accept(1))
			step := x.upTo
			if bytewise {
				step = 1
			}
			var outs []api.Out
			for at := 0; at < x.upTo && len(outs) == 0; at += step {
				outs = g.Do(says(1, long(x.size)[at:at+step]))
				if g.Loose(1) >= api.MaxHead {
					t.Fatalf("%d bytes are loose", g.Loose(1))
				}
			}
			stands(t, g, 1, x.owner, x.loose)
			switch {
			case x.owner == "a":
				want(t, outs, "[a] dial 1 x")
			case x.loose >= 0:
				want(t, outs)
			default:
				want(t, outs, "[] close 1")
			}
		}
	}
	g := made(t)
	g.Do(accept(1))
	g.Do(opens(1, 1000))
	want(t, g.Do(says(1, long(2049)[:2047])))
	want(t, g.Do(says(1, "x")), fmt.Sprintf("[] write 1 %q", own(431)), "[] close 1")
}
