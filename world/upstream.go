package world

import (
	"slices"

	"tollbar/api"
	"tollbar/http"
	"tollbar/line"
	"tollbar/sign"
)

// How an upstream answers, by its tenant's fate. By every other one it says its answer
// at once.
const (
	unreached = iota + 1 // of a Dial: it can't be connected to
	left                 // it closes without a word
	silent               // it says nothing
	garbled              // it says what is no response
	slow                 // it says its answer byte by byte
	last                 // it says that it closes behind its answer
	broken               // it closes in the midst of its answer
)

// noResponse is what an upstream says whose answer is garbled.
const noResponse = "?\r\n\r\n"

// react answers what waits, that which comes to wait meanwhile too.
func (w *World) react(n int) {
	for range min(n, mostAnswers) {
		if len(w.waits) == 0 {
			return
		}
		first := w.waits[0]
		// Else its bytes would be kept as long as what stands behind it.
		w.waits[0] = api.Out{}
		w.waits = w.waits[1:]
		if first.Kind == api.Dial {
			w.reach(first)
		} else {
			w.reply(first)
		}
	}
}

// fate is a tenant's first fate; 0, if there is none left.
func (w *World) fate(tenant string) int {
	if fates := w.fates[tenant]; len(fates) > 0 {
		return fates[0]
	}
	return 0
}

// useUp takes a tenant's first fate away, if there is one.
func (w *World) useUp(tenant string) {
	if fates := w.fates[tenant]; len(fates) > 0 {
		w.fates[tenant] = fates[1:]
	}
}

// reach answers a Dial. A fate that isn't a Dial's is left to the Send behind it.
func (w *World) reach(o api.Out) {
	kind := api.Joined
	if w.fate(o.Tenant) == unreached {
		w.useUp(o.Tenant)
		kind = api.Failed
	}
	w.comes(o, kind, nil)
}

// reply answers a Send.
func (w *World) reply(o api.Out) {
	fate := w.fate(o.Tenant)
	w.useUp(o.Tenant)
	b := answer(o.Data, fate == last)
	switch fate {
	case left:
		w.comes(o, api.Gone, nil)
	case silent:
	case garbled:
		w.comes(o, api.Said, []byte(noResponse))
	case slow:
		for i := range b {
			w.comes(o, api.Said, b[i:i+1])
		}
	case broken:
		w.comes(o, api.Said, b[:len(b)/2])
		w.comes(o, api.Gone, nil)
	default:
		w.comes(o, api.Said, b)
	}
}

// comes is what comes from the upstream that was told something.
func (w *World) comes(told api.Out, kind int, b []byte) {
	w.happen(api.Event{Kind: kind, Tenant: told.Tenant, H: told.H, Data: b})
}

// answer is what an upstream says to the bytes of a request; to others nothing.
func answer(b []byte, closes bool) []byte {
	q, n, _ := http.Request(b)
	if n == 0 {
		return nil
	}
	body := slices.Concat([]byte(q.Method+" "+q.Target+" "), q.Body)
	r := api.Resp{Code: 200, Reason: line.Reason(200), Minor: 1, Body: body}
	r.Fields = append(r.Fields, api.Field{Name: "Content-Length", Value: sign.Text(int64(len(body)))})
	if closes {
		r.Fields = append(r.Fields, api.Field{Name: "Connection", Value: "close"})
	}
	if q.Method == "HEAD" {
		r.Body = nil
	}
	return http.WriteResponse(r)
}
