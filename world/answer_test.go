package world

import (
	"strings"
	"testing"
)

// P22.1: the bytes of an answer, which a client is told otherwise.
func TestAnswerBytes(t *testing.T) {
	const host = " HTTP/1.1\r\nHost: x\r\n"
	for _, x := range []struct {
		asked  string
		closes bool
		want   string
	}{
		{"GET /a" + host + "\r\n", false, "Content-Length: 7\r\n\r\nGET /a "},
		{"GET /a" + host + "\r\n", true, "Content-Length: 7\r\nConnection: close\r\n\r\nGET /a "},
		{"PUT /a" + host + "Content-Length: 3\r\n\r\nxyz", false, "Content-Length: 10\r\n\r\nPUT /a xyz"},
		{"PUT /a" + host + "Content-Length: 3\r\n\r\nxyz" + "rest", true, "Content-Length: 10\r\nConnection: close\r\n\r\nPUT /a xyz"},
		// Its length is that of the body which it would have.
		{"HEAD /a" + host + "Content-Length: 3\r\n\r\nxyz", false, "Content-Length: 11\r\n\r\n"},
		{"HEAD /a" + host + "\r\n", true, "Content-Length: 8\r\nConnection: close\r\n\r\n"},
		{"OPTIONS *" + host + "\r\n", false, "Content-Length: 10\r\n\r\nOPTIONS * "},
	} {
		if got := string(answer([]byte(x.asked), x.closes)); got != "HTTP/1.1 200 OK\r\n"+x.want {
			t.Errorf("%q: %q", x.asked, got)
		}
	}
	for _, none := range []string{"", "GET", "GET /a" + host, "PUT /a" + host + "Content-Length: 3\r\n\r\nxy", "\r\n\r\n", "GET /a HTTP/1.1\r\n\r\n", "GET /" + host + "X: " + strings.Repeat("x", 2048) + "\r\n\r\n"} {
		if got := answer([]byte(none), false); len(got) != 0 {
			t.Errorf("%q: %q", none, got)
		}
	}
}
