package world_test

import (
	"fmt"
	"math"
	"slices"
	"strings"
	"testing"

	"tollbar/api"
	"tollbar/entry"
	"tollbar/http"
	"tollbar/scrub"
	"tollbar/world"
)

const (
	// b stands ahead of a, so that the table's order isn't that of the names.
	two      = "slot b 20000 3 4 500 500 300 i j.example\nslot a 20000 3 4 500 500 300 h\n"
	ordinary = "up u x y\nroute / u /\ntotal 9\ntries 1\nfails 9\ncool 5\n"
	get      = "GET / HTTP/1.1\r\nHost: h\r\n\r\n"
)

func upload(name, set string) world.Step {
	return world.Step{Kind: world.Upload, Tenant: name, Data: []byte(set)}
}

func opens(id, n int) world.Step { return world.Step{Kind: world.Open, Conn: id, N: n} }

func asks(id int, text string) world.Step {
	return world.Step{Kind: world.Ask, Conn: id, Data: []byte(text)}
}

func leaves(id int) world.Step { return world.Step{Kind: world.Leave, Conn: id} }

func window(id, n int) world.Step { return world.Step{Kind: world.Window, Conn: id, N: n} }

func ticks(n int) world.Step { return world.Step{Kind: world.Tick, N: n} }

func rounds(n int) world.Step { return world.Step{Kind: world.Round, N: n} }

func fate(name string, n int) world.Step { return world.Step{Kind: world.Fate, Tenant: name, N: n} }

func reacts(n int) world.Step { return world.Step{Kind: world.React, N: n} }

func request(method, target, host, body string) string {
	return fmt.Sprintf("%s %s HTTP/1.1\r\nHost: %s\r\nContent-Length: %d\r\n\r\n%s", method, target, host, len(body), body)
}

// answered is what a client is told of a request that its upstream answers.
func answered(method, target, body string) string {
	said := method + " " + target + " " + body
	return fmt.Sprintf("HTTP/1.1 200 OK\r\nContent-Length: %d\r\n\r\n%s", len(said), said)
}

func own(code int, closes bool) string { return string(http.WriteResponse(scrub.Own(code, closes))) }

// does does steps whose kinds there are.
func does(t *testing.T, w *world.World, steps ...world.Step) {
	t.Helper()
	for _, s := range steps {
		if e := w.Do(s); e != api.OK {
			t.Fatalf("%+v: error %d", s, e)
		}
	}
}

func made(t *testing.T, text string) *world.World {
	t.Helper()
	w, e := world.New(text)
	if e != api.OK || w == nil {
		t.Fatalf("error %d", e)
	}
	return w
}

// town is a world of two tenants, each with a configuration.
func town(t *testing.T) *world.World {
	t.Helper()
	w := made(t, two)
	does(t, w, upload("a", ordinary), upload("b", ordinary))
	return w
}

// stands holds what a client has been told.
func stands(t *testing.T, w *world.World, id int, stream string, closed bool, paused int) {
	t.Helper()
	if s := string(w.Stream(id)); s != stream || w.Closed(id) != closed || w.Paused(id) != paused {
		t.Fatalf("client %d: %q, closed %v, paused %d; want %q, %v, %d", id, s, w.Closed(id), w.Paused(id), stream, closed, paused)
	}
}

// logged holds a tenant's records against their lines.
func logged(t *testing.T, w *world.World, name string, rows ...string) {
	t.Helper()
	var got []string
	for _, r := range w.Log(name) {
		row, _ := entry.Write(r)
		got = append(got, strings.TrimSuffix(string(row), "\n"))
	}
	if !slices.Equal(got, rows) {
		t.Fatalf("log of %q:\n%q\nwant:\n%q", name, got, rows)
	}
}

// waits holds how much waits, and how many handles a has.
func waits(t *testing.T, w *world.World, n, handles int) {
	t.Helper()
	if w.Waits() != n || w.Gate().Cell("a").Handles() != handles {
		t.Fatalf("%d wait, of %d handles; want %d, %d", w.Waits(), w.Gate().Cell("a").Handles(), n, handles)
	}
}

// P22.1: the chapter's example.
func TestExample(t *testing.T) {
	w := town(t)
	does(t, w, opens(1, 1000), asks(1, get), reacts(9), rounds(1))
	stands(t, w, 1, answered("GET", "/", ""), false, 0)
	logged(t, w, "a", fmt.Sprintf("1 0 0 1 GET / 200 1 %d", len(answered("GET", "/", ""))))
	logged(t, w, "b")
}

// P22.1: a text of which layer 9 answers an error makes no world.
func TestNew(t *testing.T) {
	for _, text := range []string{
		"", "\n", "x", "slot a\n", strings.TrimSuffix(two, "\n"), two + two, two + "slot c 255 1 1 1 1 1 c\n", "slot a 20000 3 4 50 50 300\n",
		two + strings.Repeat("x", api.MaxText), "slot  a 20000 3 4 50 50 300 h\n",
	} {
		if w, e := world.New(text); e != api.ErrTable || w != nil {
			t.Errorf("%.40q: %v, error %d", text, w, e)
		}
	}
	for _, text := range []string{two, "slot a 256 1 1 1 1 1 h\n"} {
		w := made(t, text)
		if w.Gate() == nil || w.Gate().Cell("a") == nil || w.Waits() != 0 {
			t.Errorf("%q: a world without its gate", text)
		}
	}
}

// P22.1: of another kind there is no step, and nothing is done.
func TestKinds(t *testing.T) {
	w := town(t)
	does(t, w, opens(1, 1000), asks(1, get))
	for _, kind := range []int{0, -1, 10, 11, 99, math.MinInt, math.MaxInt, 1<<32 + world.Leave, -world.Leave} {
		if e := w.Do(world.Step{Kind: kind, Conn: 1, N: 9, Tenant: "a", Data: []byte(get)}); e != api.ErrArg {
			t.Errorf("kind %d: error %d", kind, e)
		}
	}
	waits(t, w, 1, 1)
	stands(t, w, 1, "", false, 0)
	logged(t, w, "a")
	if w.Gate().Owner(1) != "a" || w.Gate().Cell("a").Now() != 0 {
		t.Error("something was done")
	}
	for kind, number := range map[int]int{world.Upload: 1, world.Open: 2, world.Ask: 3, world.Leave: 4, world.Window: 5, world.Tick: 6, world.Round: 7, world.Fate: 8, world.React: 9} {
		if kind != number {
			t.Errorf("a kind is %d, not %d", kind, number)
		}
	}
}

// P22.1: who was told nothing.
func TestNobody(t *testing.T) {
	w := town(t)
	for _, id := range []int{0, -1, 1, 7, math.MinInt, math.MaxInt} {
		stands(t, w, id, "", false, 0)
	}
	for _, name := range []string{"", "a", "b", "c", "A", "h"} {
		logged(t, w, name)
	}
	waits(t, w, 0, 0)
}

// P22.1: a configuration is its tenant's; one that is none leaves what there was.
func TestUpload(t *testing.T) {
	w := made(t, two)
	does(t, w, opens(1, 1000), asks(1, get), upload("a", "up u x\nroute / u /n\ntotal 9\ntries 1\nfails 9\ncool 5\n"), upload("b", ordinary), upload("c", ordinary), upload("", ordinary), upload("a", "x"), upload("b", ""))
	does(t, w, asks(1, get), opens(2, 1000), asks(2, request("GET", "/q", "j.example", "z")), reacts(9), rounds(1))
	stands(t, w, 1, own(404, false)+answered("GET", "/n", ""), false, 0)
	stands(t, w, 2, answered("GET", "/q", "z"), false, 0)
}

// P22.1: Open lets a connection be there, and its window be N wider; only one that begins a life forgets what was told.
func TestOpen(t *testing.T) {
	w := town(t)
	whole := answered("GET", "/", "")
	does(t, w, opens(1, 10), opens(1, 5), opens(1, -9), asks(1, get), reacts(9), rounds(1))
	stands(t, w, 1, whole[:15], false, 0)
	does(t, w, opens(1, 3), rounds(1))
	stands(t, w, 1, whole[:18], false, 0)
	// Each life has a window of its own.
	does(t, w, leaves(1), opens(1, 4))
	stands(t, w, 1, "", false, 0)
	does(t, w, asks(1, get), reacts(9), rounds(9))
	stands(t, w, 1, whole[:4], false, 0)
	// One that is loose is known too.
	does(t, w, opens(2, 7), asks(2, "GET / HTTP/1.1\r\n"), opens(2, 2), asks(2, "\n"))
	stands(t, w, 2, own(400, true)[:9], true, 0)
	does(t, w, opens(2, 0))
	stands(t, w, 2, "", false, 0)
	stands(t, w, 1, whole[:4], false, 0)
	if w.Gate().Loose(2) != 0 {
		t.Error("it isn't loose")
	}
}

// P22.1: numbers that may be no connection's.
func TestOpenNumbers(t *testing.T) {
	w := town(t)
	for _, id := range []int{0, -1, math.MinInt, 1 << 31, math.MaxInt} {
		does(t, w, opens(id, 1000), asks(id, get), reacts(9), rounds(9), window(id, 5), leaves(id))
		stands(t, w, id, "", false, 0)
	}
	logged(t, w, "a")
	for _, id := range []int{1, 1<<31 - 1} {
		does(t, w, opens(id, 1000), asks(id, get), reacts(9), rounds(9))
		stands(t, w, id, answered("GET", "/", ""), false, 0)
	}
}

// P22.1: what a client says is its own, in pieces too; one that isn't there says nothing.
func TestAsk(t *testing.T) {
	w := town(t)
	does(t, w, asks(1, get), opens(1, 1000), opens(2, 1000))
	for i := range len(get) {
		does(t, w, asks(1, get[i:i+1]), asks(3, get), asks(2, ""))
	}
	waits(t, w, 1, 1)
	does(t, w, asks(1, strings.Repeat(get, 3)+"GET"), reacts(99), rounds(9), asks(1, get[3:]), reacts(9), rounds(9))
	stands(t, w, 1, strings.Repeat(answered("GET", "/", ""), 5), false, 0)
	stands(t, w, 2, "", false, 0)
	does(t, w, asks(2, "PUT /p HTTP/1.1\r\nHost: i\r\nExpect: 100-continue\r\nContent-Length: 2\r\n\r\n"), rounds(1))
	stands(t, w, 2, "HTTP/1.1 100 Continue\r\n\r\n", false, 0)
	does(t, w, asks(2, "ab"), reacts(9), rounds(9))
	stands(t, w, 2, "HTTP/1.1 100 Continue\r\n\r\n"+answered("PUT", "/p", "ab"), false, 0)
}

// P22.1: who leaves isn't there any more, and is not closed; what it was told stays.
func TestLeave(t *testing.T) {
	w := town(t)
	does(t, w, opens(1, 1000), asks(1, get+get), reacts(2), rounds(1), leaves(1), reacts(9), rounds(9))
	stands(t, w, 1, answered("GET", "/", ""), false, 0)
	size := len(answered("GET", "/", ""))
	logged(t, w, "a", fmt.Sprintf("1 0 0 1 GET / 200 1 %d", size), "2 0 0 1 GET / 0 2 0")
	if w.Gate().Owner(1) != "" || w.Gate().Loose(1) != -1 {
		t.Error("it is known")
	}
	does(t, w, leaves(1), leaves(5), asks(1, get), reacts(9), rounds(9))
	stands(t, w, 1, answered("GET", "/", ""), false, 0)
	// A loose one.
	does(t, w, opens(1, 1000), asks(1, "GET"), leaves(1), asks(1, get[3:]), reacts(9), rounds(9))
	stands(t, w, 1, "", false, 0)
}

// P22.1: a client is written as many bytes as its window lets, of its tenant and of nobody.
func TestWindow(t *testing.T) {
	w := town(t)
	whole := answered("GET", "/", "")
	does(t, w, opens(1, 0), opens(2, 0), window(2, 6), window(2, math.MinInt), asks(1, get), reacts(9), rounds(9), window(7, 5))
	stands(t, w, 1, "", false, 0)
	at := 0
	for _, n := range []int{1, 0, -7, 9, 3} {
		does(t, w, window(1, n), rounds(1))
		at += max(n, 0)
		stands(t, w, 1, whole[:at], false, 0)
	}
	does(t, w, window(1, math.MaxInt), rounds(1), asks(2, "\n"))
	stands(t, w, 1, whole, false, 0)
	stands(t, w, 2, own(400, true)[:6], true, 0)
}

// P22.1: a client is closed by its tenant, or by nobody's refusal, and again not when its number is opened anew.
func TestClosed(t *testing.T) {
	w := town(t)
	does(t, w, opens(1, 1000), opens(2, 1000), opens(3, 1000), opens(4, 1000))
	does(t, w, asks(1, "GET / HTTP/1.0\r\nHost: h\r\n\r\n"), asks(2, "GET / HTTP/1.1\r\nHost: x\r\n\r\n"), asks(3, get+"\n"), asks(4, get), reacts(99))
	stands(t, w, 1, "", false, 0)
	stands(t, w, 2, own(421, true), true, 0)
	does(t, w, rounds(9))
	said := "GET / "
	stands(t, w, 1, fmt.Sprintf("HTTP/1.1 200 OK\r\nContent-Length: %d\r\nConnection: close\r\n\r\n%s", len(said), said), true, 0)
	stands(t, w, 3, answered("GET", "/", "")+own(400, true), true, 0)
	stands(t, w, 4, answered("GET", "/", ""), false, 0)
	for id := 1; id <= 3; id++ {
		does(t, w, asks(id, get), leaves(id), window(id, 3), rounds(1))
		if !w.Closed(id) {
			t.Errorf("%d isn't closed", id)
		}
		does(t, w, opens(id, 1000))
		stands(t, w, id, "", false, 0)
	}
}

// P22.1: a client is paused as often as its bytes aren't taken, since its life began.
func TestPaused(t *testing.T) {
	w := made(t, "slot a 256 2 4 50 50 300 h\n")
	does(t, w, upload("a", ordinary), opens(1, 1000), opens(2, 1000), asks(1, get), asks(2, get))
	for n := 1; n <= 3; n++ {
		does(t, w, asks(1, strings.Repeat("x", 300)), opens(1, 0))
		stands(t, w, 1, "", false, n)
	}
	does(t, w, asks(2, strings.Repeat("x", 300)))
	stands(t, w, 2, "", false, 1)
	// What wasn't taken isn't there.
	does(t, w, reacts(9), rounds(9))
	stands(t, w, 1, answered("GET", "/", ""), false, 3)
	does(t, w, leaves(1))
	stands(t, w, 1, answered("GET", "/", ""), false, 3)
	does(t, w, opens(1, 0))
	stands(t, w, 1, "", false, 0)
	stands(t, w, 2, answered("GET", "/", ""), false, 1)
}

// P22.1: so many ticks go by.
func TestTick(t *testing.T) {
	w := town(t)
	does(t, w, fate("a", 3), opens(1, 1000), ticks(5), asks(1, get), reacts(9), ticks(8), ticks(0), ticks(-4), ticks(math.MinInt))
	logged(t, w, "a")
	waits(t, w, 0, 1)
	does(t, w, ticks(1))
	logged(t, w, "a", fmt.Sprintf("1 14 9 1 GET / 504 1 %d", len(own(504, false))))
	waits(t, w, 0, 0)
	does(t, w, ticks(math.MaxInt))
	for _, name := range []string{"a", "b"} {
		if now := w.Gate().Cell(name).Now(); now != api.MaxTicks {
			t.Errorf("%s has the time %d", name, now)
		}
	}
}

// P22.1: so many rounds, at most 50.
func TestRound(t *testing.T) {
	w := made(t, "slot a 20000 3 4 50 50 64 h\n")
	body := strings.Repeat("b", 4000)
	does(t, w, upload("a", ordinary), opens(1, 9000), asks(1, request("PUT", "/", "h", body)), reacts(9))
	whole := answered("PUT", "/", body)
	wrote := 0
	for _, x := range []struct{ n, done int }{{0, 0}, {-1, 0}, {math.MinInt, 0}, {1, 1}, {3, 3}, {51, 50}, {0, 0}, {50, 50}} {
		does(t, w, rounds(x.n))
		wrote = min(wrote+64*x.done, len(whole))
		stands(t, w, 1, whole[:wrote], false, 0)
	}
	for _, n := range []int{49, 50, 51, 1000, math.MaxInt} {
		w := made(t, "slot a 20000 3 4 50 50 64 h\n")
		does(t, w, upload("a", ordinary), opens(1, 9000), asks(1, request("PUT", "/", "h", body)), reacts(9), rounds(n))
		stands(t, w, 1, whole[:64*min(n, 50)], false, 0)
	}
}

// P22.1: a tenant's fates are used up in their order, each by what is answered of its own.
func TestFate(t *testing.T) {
	w := town(t)
	does(t, w, fate("b", 4), fate("a", 3), fate("a", 0), fate("x", 2), fate("", 2), fate("A", 2), fate("h", 2))
	for id, host := range []string{"h", "h", "i", "h"} {
		does(t, w, opens(id+1, 1000), asks(id+1, request("GET", "/", host, "")), reacts(9), rounds(9))
	}
	stands(t, w, 1, "", false, 0)
	stands(t, w, 2, answered("GET", "/", ""), false, 0)
	stands(t, w, 3, own(502, false), false, 0)
	does(t, w, leaves(2), opens(2, 1000), asks(2, get), reacts(9), rounds(9))
	stands(t, w, 2, answered("GET", "/", ""), false, 0)
}

// P22.1: at most 100 fates of a tenant wait; when some are used up, there is room again.
func TestManyFates(t *testing.T) {
	several := func(n, what int) []world.Step { return slices.Repeat([]world.Step{fate("a", what)}, n) }
	for _, x := range []struct {
		steps   []world.Step
		records int
	}{
		{slices.Concat(several(99, 8), several(1, 3)), 99},
		{slices.Concat(several(100, 8), several(1, 3)), 150},
		{slices.Concat(several(300, 8), several(300, 3)), 150},
		// The Dial and the Send of another client: one is used up.
		{slices.Concat(several(100, 8), several(1, 3), []world.Step{asks(2, get), reacts(2), leaves(2)}, several(1, 3), several(1, 3)), 100},
		// Another tenant's fates don't take its room.
		{slices.Concat(slices.Repeat([]world.Step{fate("b", 3)}, 100), several(9, 8), several(1, 3)), 9},
	} {
		w := town(t)
		does(t, w, opens(1, 1<<20), opens(2, 1000))
		does(t, w, x.steps...)
		before := len(w.Log("a"))
		does(t, w, asks(1, strings.Repeat(get, 150)), reacts(200))
		if n := len(w.Log("a")); n != x.records || w.Waits() != 0 {
			t.Errorf("of %d records ahead %d come of %d, and %d wait", before, n, x.records, w.Waits())
		}
	}
}

// P22.1: what waits is answered, the first first, as many as N; what comes to wait meanwhile too.
func TestReact(t *testing.T) {
	w := town(t)
	does(t, w, opens(1, 1000), opens(2, 1000), asks(1, get), asks(2, request("GET", "/2", "h", "")))
	waits(t, w, 2, 2)
	does(t, w, reacts(0), reacts(-1), reacts(math.MinInt))
	waits(t, w, 2, 2)
	// 1's Dial: its Send stands behind 2's Dial.
	does(t, w, reacts(1))
	waits(t, w, 2, 2)
	// 2's Dial fails: its next one stands behind 1's Send.
	does(t, w, fate("a", 1), reacts(1))
	waits(t, w, 2, 2)
	logged(t, w, "a")
	does(t, w, reacts(1))
	waits(t, w, 1, 2)
	first := fmt.Sprintf("1 0 0 1 GET / 200 1 %d", len(answered("GET", "/", "")))
	logged(t, w, "a", first)
	does(t, w, reacts(99))
	waits(t, w, 0, 2)
	logged(t, w, "a", first, fmt.Sprintf("2 0 0 2 GET /2 200 3 %d", len(answered("GET", "/2", ""))))
}

// P22.1: at most 200 are answered in a step. What is hung up waits still, and is answered.
func TestReactMost(t *testing.T) {
	w := town(t)
	for range 450 {
		does(t, w, opens(1, 0), asks(1, get), leaves(1))
	}
	left := 450
	for _, x := range []struct{ n, answered int }{{0, 0}, {-7, 0}, {7, 7}, {199, 199}, {1000, 200}, {math.MaxInt, 44}, {1, 0}} {
		does(t, w, reacts(x.n))
		left -= x.answered
		waits(t, w, left, 0)
	}
	if n := len(w.Log("a")); n != 450 {
		t.Errorf("%d records", n)
	}
}

// P22.1: what was hung up uses its fate up.
func TestHang(t *testing.T) {
	w := town(t)
	does(t, w, opens(1, 1000), asks(1, get), leaves(1), fate("a", 1), fate("a", 4), reacts(1), opens(1, 1000), asks(1, get))
	waits(t, w, 1, 1)
	does(t, w, reacts(1), leaves(1), reacts(1), opens(1, 1000), asks(1, get), reacts(9), rounds(1))
	stands(t, w, 1, answered("GET", "/", ""), false, 0)
	waits(t, w, 0, 1)
}

// P22.1: a Dial fails by the fate 1; each other one it leaves to the Send.
func TestDial(t *testing.T) {
	w := town(t)
	does(t, w, fate("a", 1), fate("a", 1), fate("a", 4), opens(1, 1000), asks(1, get), reacts(1))
	waits(t, w, 1, 1)
	logged(t, w, "a")
	does(t, w, reacts(1))
	waits(t, w, 0, 0)
	logged(t, w, "a", fmt.Sprintf("1 0 0 1 GET / 502 2 %d", len(own(502, false))))
	does(t, w, asks(1, get), reacts(1))
	waits(t, w, 1, 1)
	does(t, w, reacts(1), rounds(1))
	stands(t, w, 1, own(502, false)+own(502, false), false, 0)
	waits(t, w, 0, 0)
	// The same of b's handles: they aren't a's.
	does(t, w, fate("a", 1), opens(2, 1000), asks(2, request("GET", "/", "i", "")), reacts(9), rounds(1))
	stands(t, w, 2, answered("GET", "/", ""), false, 0)
}

// P22.1: how a Send is answered.
func TestSend(t *testing.T) {
	bad := own(502, false)
	for _, x := range []struct {
		fate    int
		method  string
		stream  string // none: it hasn't been answered
		up      int
		handles int
	}{
		{2, "GET", answered("GET", "/", ""), 2, 1}, // tried anew, since no byte has come
		{2, "POST", bad, 1, 0},
		{3, "GET", "", 1, 1},
		{3, "POST", "", 1, 1},
		{4, "GET", bad, 1, 0},
		{4, "HEAD", bad, 1, 0},
		{5, "GET", answered("GET", "/", ""), 1, 1},
		{5, "HEAD", "HTTP/1.1 200 OK\r\n\r\n", 1, 1},
		{6, "GET", answered("GET", "/", ""), 1, 0}, // the handle is closed
		{6, "HEAD", "HTTP/1.1 200 OK\r\n\r\n", 1, 0},
		{7, "GET", bad, 1, 0}, // not tried anew, since bytes have come
		{7, "HEAD", bad, 1, 0},
	} {
		w := town(t)
		does(t, w, fate("a", x.fate), opens(1, 1000), asks(1, request(x.method, "/", "h", "")), reacts(9), rounds(1))
		stands(t, w, 1, x.stream, false, 0)
		waits(t, w, 0, x.handles)
		if x.stream == "" {
			logged(t, w, "a")
			does(t, w, ticks(9), rounds(1))
			stands(t, w, 1, own(504, false), false, 0)
			waits(t, w, 0, 0)
		} else if log := w.Log("a"); len(log) != 1 || log[0].Up != x.up {
			t.Errorf("fate %d, %s: %v", x.fate, x.method, log)
		}
	}
	for _, n := range []int{0, 8, 9, 99, -1, -2, -7, math.MinInt, math.MaxInt, 1<<32 + 2} {
		w := town(t)
		does(t, w, fate("a", n), fate("a", 3), opens(1, 1000), asks(1, get+get), reacts(9), rounds(1))
		stands(t, w, 1, answered("GET", "/", ""), false, 0)
		waits(t, w, 0, 2)
	}
	// The fate 1 behind a Dial that was joined ahead of it is the Send's.
	w := town(t)
	does(t, w, opens(1, 1000), asks(1, get), reacts(1), fate("a", 1), fate("a", 3), reacts(1), rounds(1), asks(1, get), reacts(9), rounds(1))
	stands(t, w, 1, answered("GET", "/", ""), false, 0)
}

// P22.1: what an upstream answers, as a client is told it.
func TestAnswer(t *testing.T) {
	every := make([]byte, 256)
	for i := range every {
		every[i] = byte(i)
	}
	long := strings.Repeat("b", 4096)
	for _, x := range []struct{ asked, stream string }{
		{get, answered("GET", "/", "")},
		{request("GET", "/a?b=c", "h", "z"), answered("GET", "/a?b=c", "z")},
		{request("POST", "/p", "h", string(every)), answered("POST", "/p", string(every))},
		{request("head", "/", "h", "z"), answered("head", "/", "z")},
		{request("HEAD", "/", "h", "z"), "HTTP/1.1 200 OK\r\n\r\n"},
		{request("M-SEARCH", "/", "H:80", "GET / HTTP/1.1\r\n\r\n"), answered("M-SEARCH", "/", "GET / HTTP/1.1\r\n\r\n")},
		{"PUT / HTTP/1.1\r\nHost: h\r\nTransfer-Encoding: chunked\r\n\r\n3\r\nabc\r\n2\r\nde\r\n0\r\n\r\n", answered("PUT", "/", "abcde")},
		{request("PUT", "/", "h", long[:4090]), answered("PUT", "/", long[:4090])},
		// Its answer has more bytes than a body may have.
		{request("PUT", "/", "h", long[:4091]), own(502, false)},
		{request("HEAD", "/", "h", long[:4090]), "HTTP/1.1 200 OK\r\n\r\n"},
	} {
		w := town(t)
		does(t, w, opens(1, 9000), asks(1, x.asked), reacts(9), rounds(50))
		stands(t, w, 1, x.stream, false, 0)
	}
}

// P22.1: to bytes that are no request there is no answer, though they have a fate.
func TestNoRequest(t *testing.T) {
	set := ""
	for i := range 3 {
		set += fmt.Sprintf("set X%d %s\n", i, strings.Repeat("x", 900))
	}
	for _, x := range []struct{ fate, waits, handles, records int }{
		{0, 0, 1, 0}, {3, 0, 1, 0}, {5, 0, 1, 0}, {6, 0, 1, 0}, {4, 0, 0, 1}, {2, 1, 1, 0}, {7, 1, 1, 0},
	} {
		w := town(t)
		does(t, w, upload("a", strings.Replace(ordinary, "total", set+"total", 1)), fate("a", x.fate), fate("a", 1), opens(1, 9000), asks(1, get), reacts(2))
		waits(t, w, x.waits, x.handles)
		if n := len(w.Log("a")); n != x.records {
			t.Errorf("fate %d: %d records", x.fate, n)
		}
		// The fate that is left is the second one: the next Dial fails.
		does(t, w, ticks(9), reacts(1), upload("a", ordinary), asks(1, get))
		if x.waits == 0 {
			waits(t, w, 1, 1)
			does(t, w, reacts(1))
			waits(t, w, 1, 1)
		}
		does(t, w, reacts(9), rounds(50))
		log := w.Log("a")
		if len(log) != 2 || log[1].Code != 200 {
			t.Errorf("fate %d: %v", x.fate, log)
		}
	}
}

// P22.1: each tenant's records are its own; of a client that is nobody's there is none.
func TestLog(t *testing.T) {
	w := town(t)
	does(t, w, opens(1, 1000), opens(2, 1000), opens(3, 1000), asks(1, get), asks(2, request("PUT", "/x", "i", "z")), asks(3, "\n"), reacts(9), ticks(3), asks(1, request("GET", "/y", "i", "")))
	logged(t, w, "a", fmt.Sprintf("1 0 0 1 GET / 200 1 %d", len(answered("GET", "/", ""))), fmt.Sprintf("2 3 0 1 GET /y 421 0 %d", len(own(421, true))))
	logged(t, w, "b", fmt.Sprintf("1 0 0 2 PUT /x 200 1 %d", len(answered("PUT", "/x", "z"))))
	for _, name := range []string{"", "c", "A", "h", "a "} {
		logged(t, w, name)
	}
	// One that its cell refuses has one.
	does(t, w, opens(4, 9), opens(5, 9), opens(6, 9), opens(7, 9))
	for id := 4; id <= 7; id++ {
		does(t, w, asks(id, request("GET", "/", "j.example", "")))
	}
	stands(t, w, 6, own(503, true)[:9], true, 0)
	logged(t, w, "b", fmt.Sprintf("1 0 0 2 PUT /x 200 1 %d", len(answered("PUT", "/x", "z"))),
		fmt.Sprintf("2 3 0 6 - - 503 0 %d", len(own(503, true))), fmt.Sprintf("3 3 0 7 - - 503 0 %d", len(own(503, true))))
}

// P22.1: the gate is the world's, as it stands.
func TestGate(t *testing.T) {
	w := town(t)
	g := w.Gate()
	does(t, w, opens(1, 0), opens(2, 0), asks(1, get), asks(2, "GET"), ticks(4))
	if w.Gate() != g || g.Owner(1) != "a" || g.Loose(2) != 3 || g.Cell("b").Now() != 4 || g.Cell("a").Handles() != 1 {
		t.Error("it isn't the gate that the steps are done at")
	}
}
