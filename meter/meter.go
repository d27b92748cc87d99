// Package meter is layer 1: see shared/doc/01-meter.md.
package meter

import (
	"sync"
	"sync/atomic"
)

// mostOfAll bounds every meter, so that no sum of what is held wraps round.
const mostOfAll = 1 << 40

// Meter counts what is held.
type Meter struct {
	most int64
	held atomic.Int64
	// past is at least all that was held ahead of the last Give, and never
	// more than was held at some time; see Peak.
	past atomic.Int64
}

// New is a meter.
func New(most int) *Meter {
	return &Meter{most: min(max(int64(most), 0), mostOfAll)}
}

// Take holds more.
func (m *Meter) Take(n int) bool {
	if n < 0 {
		return false
	}
	// A swap, not an addition that is taken back: others never see more held
	// than may be, and none is refused for what another one couldn't take.
	for {
		held := m.held.Load()
		if int64(n) > m.most-held {
			return false
		}
		if m.held.CompareAndSwap(held, held+int64(n)) {
			return true
		}
	}
}

// Give holds less.
func (m *Meter) Give(n int) int {
	if n <= 0 {
		return 0
	}
	for {
		held := m.held.Load()
		less := min(int64(n), held)
		m.remember(held)
		if m.held.CompareAndSwap(held, held-less) {
			return int(less)
		}
	}
}

// remember is called ahead of each fall of what is held: so nothing that was
// held is forgotten, whoever asks for the peak between two steps.
func (m *Meter) remember(held int64) {
	for {
		past := m.past.Load()
		if held <= past || m.past.CompareAndSwap(past, held) {
			return
		}
	}
}

// Held is how much is held.
func (m *Meter) Held() int { return int(m.held.Load()) }

// Room is how much more may be held.
func (m *Meter) Room() int { return int(m.most - m.held.Load()) }

// Peak is how much was held at most.
func (m *Meter) Peak() int {
	// What is held is read first: if it falls behind that, past has it.
	held := m.held.Load()
	return int(max(held, m.past.Load()))
}

// Latch is closed once.
type Latch struct {
	once   sync.Once
	closed atomic.Bool
}

// Close closes it.
func (l *Latch) Close(f func()) bool {
	first := false
	l.once.Do(func() {
		// Deferred, so that a latch whose f panics is closed as well: f isn't
		// called again.
		defer l.closed.Store(true)
		first = true
		if f != nil {
			f()
		}
	})
	return first
}

// Closed tells whether it is closed.
func (l *Latch) Closed() bool { return l.closed.Load() }
