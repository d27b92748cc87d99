package story_test

import (
	"fmt"
	"math"
	"reflect"
	"slices"
	"strings"
	"testing"

	"tollbar/api"
	"tollbar/http"
	"tollbar/scrub"
	"tollbar/story"
)

const (
	// b stands ahead of a, so that the table's order isn't that of the names.
	two      = "slot b 3000 2 2 5 5 300 i j.example\nslot a 3000 2 2 5 5 300 h\n"
	onlyA    = "slot a 3000 2 2 5 5 300 h\n"
	ordinary = "up u x y\nroute / u /\ntotal 9\ntries 1\nfails 3\ncool 5\n"
	ok       = "HTTP/1.1 200 OK\r\nContent-Length: 2\r\n\r\nab"
)

func get(host string) string { return "GET / HTTP/1.1\r\nHost: " + host + "\r\n\r\n" }

func accept(id int) api.Event { return api.Event{Kind: api.Accept, Conn: id} }

func says(id int, s string) api.Event { return api.Event{Kind: api.Bytes, Conn: id, Data: []byte(s)} }

func ends(id int) api.Event { return api.Event{Kind: api.End, Conn: id} }

func opens(id, n int) api.Event { return api.Event{Kind: api.Window, Conn: id, N: n} }

func upload(name, set string) api.Event {
	return api.Event{Kind: api.Upload, Tenant: name, Data: []byte(set)}
}

func of(kind int, name string, h int, s string) api.Event {
	return api.Event{Kind: kind, Tenant: name, H: h, Data: []byte(s)}
}

func ticks(n int) api.Event { return api.Event{Kind: api.Tick, N: n} }

func round() api.Event { return api.Event{Kind: api.Round} }

func own(code int, closes bool) []byte { return http.WriteResponse(scrub.Own(code, closes)) }

func written(id int, name string, b []byte) api.Out {
	return api.Out{Kind: api.Write, Conn: id, Tenant: name, Data: b}
}

func closed(id int, name string) api.Out { return api.Out{Kind: api.Close, Conn: id, Tenant: name} }

func logged(name, row string) api.Out {
	return api.Out{Kind: api.Log, Tenant: name, Data: []byte(row + "\n")}
}

// plain is lists among which one that is nil and one that is empty are the same.
func plain(outs [][]api.Out) [][]api.Out {
	same := make([][]api.Out, len(outs))
	for i, several := range outs {
		same[i] = make([]api.Out, len(several))
		for j, o := range several {
			o.Data = append([]byte{}, o.Data...)
			same[i][j] = o
		}
	}
	return same
}

func same(a, b [][]api.Out) bool { return reflect.DeepEqual(plain(a), plain(b)) }

// owned holds a script's owners against texts, "-" for nobody's.
func owned(t *testing.T, text string, script []api.Event, owners string) {
	t.Helper()
	got := story.Owners(text, script)
	if len(got) != len(script) {
		t.Fatalf("%d owners of %d events", len(got), len(script))
	}
	for i, name := range got {
		if name == "" {
			got[i] = "-"
		}
	}
	if all := strings.Join(got, " "); all != owners {
		t.Fatalf("owners:\n%s\nwant:\n%s", all, owners)
	}
}

// P21.1: the chapter's example, and what is behind it.
func TestExample(t *testing.T) {
	script := []api.Event{accept(1), says(1, get("h")), accept(2), ticks(1)}
	owned(t, two, script, "a a - -")
	events, places := story.Only(two, script, "a")
	if !reflect.DeepEqual(events, []api.Event{script[0], script[1], script[3]}) || !slices.Equal(places, []int{0, 1, 3}) {
		t.Errorf("%v, %v", events, places)
	}
	events, places = story.Only(two, script, "b")
	if !reflect.DeepEqual(events, []api.Event{script[3]}) || !slices.Equal(places, []int{3}) {
		t.Errorf("%v, %v", events, places)
	}
}

// P21.1: Run is first what New tells, then what Do tells of each event, in order.
func TestRun(t *testing.T) {
	script := []api.Event{upload("a", ordinary), upload("b", "x"), accept(7), opens(7, 500), accept(8), opens(8, 9), says(7, get("h")), of(api.Joined, "a", 1, ""),
		says(8, get("x")), of(api.Said, "a", 1, ok), round(), ticks(1), accept(8), says(8, get("j.example")), ends(7)}
	not := own(421, true)
	refused := own(404, false)
	want := [][]api.Out{
		{}, {{Kind: api.Taken, Tenant: "a"}}, {{Kind: api.Refused, Tenant: "b"}}, {}, {}, {}, {}, {{Kind: api.Dial, Tenant: "a", H: 1, Text: "x"}}, {{Kind: api.Send, Tenant: "a", H: 1, Data: []byte(get("h"))}},
		{written(8, "", not[:9]), closed(8, "")}, {logged("a", "1 0 0 7 GET / 200 1 40")}, {written(7, "a", []byte(ok))}, {}, {}, {logged("b", fmt.Sprintf("1 1 0 8 GET / 404 0 %d", len(refused)))}, {},
	}
	got := story.Run(two, script)
	if !same(got, want) {
		t.Fatalf("told:\n%v\nwant:\n%v", got, want)
	}
	owned(t, two, script, "a b a a - - a a - a - - b b a")
	for range 3 {
		if !same(story.Run(two, script), want) {
			t.Fatal("it tells something else when it is run again")
		}
	}
	for n := range script {
		if !same(story.Run(two, script[:n]), want[:n+1]) {
			t.Fatalf("the first %d events tell something else", n)
		}
	}
}

// P21.1: a script without events.
func TestNoScript(t *testing.T) {
	for _, script := range [][]api.Event{nil, {}} {
		if got := story.Run(two, script); len(got) != 1 || len(got[0]) != 0 {
			t.Errorf("Run: %v", got)
		}
		if got := story.Run("", script); !same(got, [][]api.Out{{{Kind: api.Refused}}}) {
			t.Errorf("Run of no table: %v", got)
		}
		if got := story.Owners(two, script); len(got) != 0 {
			t.Errorf("Owners: %v", got)
		}
		if events, places := story.Only(two, script, "a"); len(events) != 0 || len(places) != 0 {
			t.Errorf("Only: %v, %v", events, places)
		}
	}
	for _, outs := range [][][]api.Out{nil, {}} {
		if got := story.Of(outs, "a"); len(got) != 0 {
			t.Errorf("Of: %v", got)
		}
	}
	if got := story.Of([][]api.Out{nil, {}}, "a"); len(got) != 2 || len(got[0]) != 0 || len(got[1]) != 0 {
		t.Errorf("Of two empty lists: %v", got)
	}
}

// P21.1: of a text that is no table's New tells Refused, and nothing is anybody's.
func TestRefusedTable(t *testing.T) {
	script := []api.Event{accept(1), opens(1, 9), says(1, get("h")), says(1, "\n"), ends(1), upload("a", ordinary), of(api.Joined, "a", 1, ""), upload("", ""), ticks(1), round(), {Kind: 12}}
	for _, text := range []string{"", "\n", "x", "slot a\n", strings.TrimSuffix(onlyA, "\n"), onlyA + onlyA, onlyA + "slot b 255 2 2 5 5 300 i\n", onlyA + strings.Repeat("x", 5000)} {
		got := story.Run(text, script)
		if len(got) != len(script)+1 || !same(got[:1], [][]api.Out{{{Kind: api.Refused}}}) || !same(got[1:], make([][]api.Out, len(script))) {
			t.Errorf("%.30q: Run: %v", text, got)
		}
		owned(t, text, script, "- - - - - - - - - - -")
		for _, name := range []string{"", "a"} {
			events, places := story.Only(text, script, name)
			if !reflect.DeepEqual(events, script[8:10]) || !slices.Equal(places, []int{8, 9}) {
				t.Errorf("%.30q: Only of %q: %v, %v", text, name, events, places)
			}
			if alone := story.Alone(text, name); alone != "" {
				t.Errorf("%.30q: Alone of %q: %q", text, name, alone)
			}
		}
	}
}

// P21.1: whose a connection's events are, by what becomes of it.
func TestLives(t *testing.T) {
	long := "GET /" + strings.Repeat("x", 600)
	for _, x := range []struct {
		script []api.Event
		owners string
	}{
		// The tenant's from the Accept on, though it is known later only.
		{[]api.Event{accept(1), opens(1, 5), says(1, "GET / HTTP/1.1\r\n"), says(1, ""), accept(1), says(1, "Host: h\r\n\r"), says(1, "\n"), opens(1, 5), accept(1), says(1, "x"), ends(1)}, "a a a a a a a a a a a"},
		// Loose at the end, or ended while it was: nobody's.
		{[]api.Event{accept(1), opens(1, 5), says(1, get("h")[:20]), accept(1)}, "- - - -"},
		{[]api.Event{accept(1), opens(1, 5), says(1, get("h")[:20]), ends(1), says(1, get("h")[20:]), ends(1)}, "- - - - - -"},
		// The gate refuses it, with a window and without.
		{[]api.Event{accept(1), opens(1, 5), says(1, get("x")), ends(1)}, "- - - -"},
		{[]api.Event{accept(1), says(1, get("x")), says(1, get("h"))}, "- - -"},
		{[]api.Event{accept(1), says(1, long), ends(1)}, "- - -"},
		{[]api.Event{accept(1), says(1, strings.Repeat("x", 2047)), says(1, "x"), says(1, get("h"))}, "- - - -"},
		// What comes ahead of an Accept, and behind an End, is nobody's.
		{[]api.Event{says(1, get("h")), opens(1, 5), ends(1), accept(1), says(1, get("h")), ends(1), says(1, get("h")), opens(1, 5), ends(1)}, "- - - a a a - - -"},
		// Numbers that aren't to be accepted.
		{[]api.Event{accept(0), says(0, get("h")), accept(-1), says(-1, get("h")), accept(1 << 31), says(1<<31, get("h")), accept(math.MinInt), ends(math.MinInt), accept(math.MaxInt), opens(math.MaxInt, 1)}, "- - - - - - - - - -"},
		{[]api.Event{accept(1<<31 - 1), says(1<<31-1, get("h"))}, "a a"},
		// Each life of a number has a tenant of its own.
		{[]api.Event{accept(1), says(1, get("h")), ends(1), accept(1), says(1, get("i")), ends(1), accept(1), says(1, get("x")), accept(1), opens(1, 1), ends(1), accept(1), says(1, get("h"))}, "a a a b b b - - - - - a a"},
		// Another host, asked for later, doesn't make it another's.
		{[]api.Event{accept(1), says(1, get("h")), says(1, get("i")), accept(2), says(2, get("J.Example:80"))}, "a a a b b"},
		// Several lives at once.
		{[]api.Event{accept(1), accept(2), accept(3), opens(2, 1), says(3, get("x")), says(2, get("i")), says(1, get("h")), opens(3, 1), ends(2), opens(1, 1), accept(3)}, "a b - b - b a - b a -"},
		// What the fields beside an event's own say doesn't matter.
		{[]api.Event{{Kind: api.Accept, Conn: 1, Tenant: "b", H: 1, Data: []byte(get("i"))}, {Kind: api.Window, Conn: 1, Tenant: "b"}, {Kind: api.Bytes, Conn: 1, Tenant: "b", Data: []byte(get("h"))}, {Kind: api.End, Conn: 1, Tenant: "b"}}, "a a a a"},
	} {
		owned(t, two, x.script, x.owners)
	}
}

// P21.1: a connection that a cell was to adopt, but refused, is its tenant's.
func TestRefusedByCell(t *testing.T) {
	script := []api.Event{accept(1), says(1, get("h")), accept(2), says(2, get("h")), accept(3), opens(3, 10), says(3, get("h")), says(3, get("h")), ends(3), accept(4), says(4, get("h")), accept(4), says(4, get("i"))}
	owned(t, two, script, "a a a a a a a - - a a b b")
	outs := story.Run(two, script)
	b := own(503, true)
	if want := []api.Out{logged("a", fmt.Sprintf("3 0 0 3 - - 503 0 %d", len(b))), written(3, "a", b[:10]), closed(3, "a")}; !same(outs[7:8], [][]api.Out{want}) {
		t.Errorf("told: %v", outs[7])
	}
	tight := "slot a 256 2 2 5 5 300 h\n"
	// It doesn't feed the bytes.
	owned(t, tight, []api.Event{accept(3), says(3, get("h")+strings.Repeat("x", 256)), says(3, get("h")), accept(3)}, "a a - -")
	// It takes it, but has no room for a response: it is closed at once.
	script = []api.Event{accept(3), says(3, get("h")+strings.Repeat("x", 229)), says(3, get("h")), opens(3, 1), accept(3), says(3, get("h"))}
	owned(t, tight, script, "a a - - a a")
	if outs := story.Run(tight, script); len(outs[2]) != 2 || outs[2][1].Kind != api.Close {
		t.Errorf("told: %v", outs[2])
	}
}

// P21.1: a life ends with whatever event behind which the connection isn't known.
func TestEnds(t *testing.T) {
	bad := get("h") + "\n"
	job := []api.Event{upload("a", ordinary), accept(1), opens(1, 1000), says(1, bad)}
	behind := []api.Event{says(1, "x"), opens(1, 1), ends(1), accept(1), says(1, get("i"))}
	for _, x := range []struct {
		ends   []api.Event
		owners string
	}{
		{[]api.Event{ends(1)}, "a"},
		{[]api.Event{ticks(9), round()}, "- -"},
		{[]api.Event{of(api.Failed, "a", 1, ""), of(api.Failed, "a", 2, ""), round()}, "a a -"},
		{[]api.Event{of(api.Joined, "a", 1, ""), of(api.Said, "a", 1, ok), accept(1), round()}, "a a a -"},
		// Behind the round another life begins, which ends loose.
		{[]api.Event{ticks(9), accept(1), round(), accept(1), round()}, "- a - - -"},
	} {
		owned(t, two, slices.Concat(job, x.ends, behind), "a a a a "+x.owners+" - - - b b")
	}
	// The window doesn't let the response be written: it is known still.
	shut := []api.Event{upload("a", ordinary), accept(1), says(1, bad), of(api.Joined, "a", 1, ""), of(api.Said, "a", 1, ok), round(), accept(1), opens(1, 1000), round(), says(1, "x"), accept(1), says(1, get("i"))}
	owned(t, two, shut, "a a a a a - a a - - b b")
	// One round ends several lives.
	several := []api.Event{accept(1), says(1, "GET / HTTP/1.0\r\nHost: h\r\n\r\n"), accept(2), says(2, "GET / HTTP/1.0\r\nHost: i\r\n\r\n"), opens(1, 999), opens(2, 999), round(), opens(1, 1), opens(2, 1), accept(2), says(2, get("h"))}
	owned(t, two, several, "a a b b a b - - - a a")
	// An upstream's word does, if there is no room for the response.
	tight := "slot a 256 2 2 5 5 300 h\nslot b 3000 2 2 5 5 300 i\n"
	script := []api.Event{upload("a", ordinary), accept(1), says(1, get("h")), accept(2), says(2, get("h")+strings.Repeat("x", 190)), of(api.Joined, "a", 1, ""), of(api.Said, "a", 1, "?\r\n\r\n")}
	outs := story.Run(tight, append(script, says(1, "x")))
	last := outs[len(script)]
	if len(last) == 0 || last[len(last)-1].Kind != api.Close || last[len(last)-1].Conn != 1 {
		t.Fatalf("it isn't closed: %v", last)
	}
	owned(t, tight, slices.Concat(script, behind), "a a a a a a a - - - b b")
}

// P21.1: an upstream's event, and a configuration, is that slot's that has the name, be its handle there or not.
func TestTenant(t *testing.T) {
	for kind := api.Joined; kind <= api.Upload; kind++ {
		var script []api.Event
		for _, name := range []string{"a", "b", "", "c", "A", "a ", "h", "i", "slot", "aa", strings.Repeat("a", 1000)} {
			script = append(script, api.Event{Kind: kind, Conn: 1, Tenant: name, H: 1}, api.Event{Kind: kind, Tenant: name, H: -1, Data: []byte(ordinary)})
		}
		owned(t, two, script, "a a b b"+strings.Repeat(" - -", 9))
	}
	// Not that of the connection's number that stands beside.
	owned(t, two, []api.Event{accept(1), says(1, get("h")), {Kind: api.Joined, Conn: 1, Tenant: "b"}, {Kind: api.Upload, Conn: 1}}, "a a b -")
}

// P21.1: Tick, Round and other kinds are nobody's, whatever stands beside.
func TestNobodys(t *testing.T) {
	script := []api.Event{accept(1), says(1, get("h"))}
	owners := "a a"
	for _, kind := range []int{api.Tick, api.Round, 0, -1, 12, 13, 99, math.MinInt, math.MaxInt, 1<<32 + api.Bytes} {
		script = append(script, api.Event{Kind: kind, Conn: 1, Tenant: "a", H: 1, N: 1, Data: []byte(get("h"))})
		owners += " -"
	}
	owned(t, two, append(script, opens(1, 1)), owners+" a")
	events, places := story.Only(two, script, "a")
	if !reflect.DeepEqual(events, script[:4]) || !slices.Equal(places, []int{0, 1, 2, 3}) {
		t.Errorf("%v, %v", events, places)
	}
}

// P21.1: Only of a name that no slot has is the Ticks and Rounds; nobody's events aren't those of the name "".
func TestOnly(t *testing.T) {
	script := []api.Event{round(), accept(1), upload("c", ordinary), accept(2), says(1, get("h")), ticks(-1), says(2, get("x")), upload("b", "x"), {Kind: 12, Tenant: "a"}, opens(1, 3), ticks(math.MaxInt), says(3, "x")}
	for _, x := range []struct {
		name   string
		places []int
	}{
		{"a", []int{0, 1, 4, 5, 9, 10}}, {"b", []int{0, 5, 7, 10}}, {"", []int{0, 5, 10}}, {"c", []int{0, 5, 10}}, {"A", []int{0, 5, 10}}, {"h", []int{0, 5, 10}},
	} {
		events, places := story.Only(two, script, x.name)
		var want []api.Event
		for _, at := range x.places {
			want = append(want, script[at])
		}
		if !slices.Equal(places, x.places) || !reflect.DeepEqual(events, want) {
			t.Errorf("%q: %v, %v", x.name, events, places)
		}
	}
}

// P21.1: Alone is the text of the slot's line.
func TestAlone(t *testing.T) {
	var text strings.Builder
	for i := range 16 {
		fmt.Fprintf(&text, "slot s%d %d 64 1 2 3 %d x%d.example y%d\n", i, 256+i, 1<<20-i, i, i)
	}
	for _, x := range []struct{ text, name, want string }{
		{two, "a", onlyA}, {two, "b", "slot b 3000 2 2 5 5 300 i j.example\n"}, {onlyA, "a", onlyA}, {text.String(), "s11", "slot s11 267 64 1 2 3 1048565 x11.example y11\n"},
		{two, "", ""}, {two, "c", ""}, {two, "A", ""}, {two, "a ", ""}, {two, "h", ""}, {two, "slot", ""}, {two, onlyA, ""}, {two, strings.Repeat("a", 1<<16), ""},
		{"", "", ""}, {"", "a", ""}, {"x", "a", ""}, {two + two, "a", ""}, {two + "\n", "a", ""}, {two + "slot c 3000 2 2 5 5 300 i\n", "a", ""}, {strings.Replace(two, " 2 2", " 65 2", 1), "a", ""},
		{text.String() + "slot t 256 1 1 1 1 1 t\n", "t", ""}, {onlyA + strings.Repeat("x", 1<<16), "a", ""},
	} {
		if got := story.Alone(x.text, x.name); got != x.want {
			t.Errorf("Alone(%.40q, %.20q) = %q", x.text, x.name, got)
		}
		if x.want != "" && story.Alone(x.want, x.name) != x.want {
			t.Errorf("Alone(%q, %q) isn't itself", x.want, x.name)
		}
	}
}

// P21.1: Of is of each list what has the tenant, whatever else it says; nobody's name is one too.
func TestOf(t *testing.T) {
	a, b, none := closed(1, "a"), logged("b", "x"), written(1, "", []byte("x"))
	other := api.Out{Kind: 77, Conn: -1, Tenant: "a", H: 3, Text: "t", Data: []byte("d")}
	outs := [][]api.Out{{}, {a, b, none, other}, nil, {b}, {none, a, a}}
	for _, x := range []struct {
		name string
		want [][]api.Out
	}{
		{"a", [][]api.Out{{}, {a, other}, {}, {}, {a, a}}}, {"b", [][]api.Out{{}, {b}, {}, {b}, {}}}, {"", [][]api.Out{{}, {none}, {}, {}, {none}}},
		{"c", make([][]api.Out, 5)}, {"A", make([][]api.Out, 5)},
	} {
		if got := story.Of(outs, x.name); !same(got, x.want) {
			t.Errorf("%q: %v", x.name, got)
		}
	}
}

// P1: many lives, of one number or at once, are no more than many events.
func TestMany(t *testing.T) {
	var script []api.Event
	for i := range 100000 {
		script = append(script, accept(i+1), accept(1<<30), ends(1<<30))
	}
	script = append(script, says(77777, get("h")))
	at := 3 * 77776
	for i, name := range story.Owners(two, script) {
		if mine := i == at || i == len(script)-1; mine != (name == "a") || !mine && name != "" {
			t.Fatalf("event %d is %q's", i, name)
		}
	}
	if _, places := story.Only(two, script, "a"); !slices.Equal(places, []int{at, len(script) - 1}) {
		t.Errorf("%v", places)
	}
}
