package seriate

import (
	"testing"
	"time"

	"seriate/api"
)

// Each call waits while the mutex is held, and leaves it unlocked.
func TestEachCallTakesTheMutex(t *testing.T) {
	s, _ := New(api.Config{Txns: 4, Reads: 4, Writes: 4, Versions: 4})
	h, _ := s.Begin()
	calls := map[string]func(){
		"Begin":   func() { s.Begin() },
		"Get":     func() { s.Get(h, "x") },
		"Scan":    func() { s.Scan(h, "", "") },
		"Write":   func() { s.Write(h) },
		"Commit":  func() { s.Commit(h) },
		"Abort":   func() { s.Abort(0) },
		"Cleanup": func() { s.Cleanup() },
		"Look":    func() { s.Look(h) },
		"Told":    func() { s.Told() },
		"Run":     func() { s.Run(nil, nil) },
	}
	for name, call := range calls {
		done := make(chan struct{})
		s.mutex.Lock()
		go func() {
			defer close(done)
			call()
		}()
		select {
		case <-done:
			t.Errorf("%s did not wait for the mutex", name)
		case <-time.After(20 * time.Millisecond):
		}
		s.mutex.Unlock()
		<-done
		if !s.mutex.TryLock() {
			t.Fatalf("%s left the mutex locked", name)
		}
		s.mutex.Unlock()
	}
}
