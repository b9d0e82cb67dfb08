package silt

import (
	"testing"
	"time"

	"silt/api"
)

// Each call of a tree waits for its mutex, and lets go of it (P1). A call that does not wait has long answered when the time is over.
func TestEachCallLocksItsTree(t *testing.T) {
	tree := New()
	for name, call := range map[string]func(){
		"Make":           func() { tree.Make(api.Change{Kind: api.Put, Key: "a"}) },
		"Make of no key": func() { tree.Make(api.Change{}) },
		"Get":            func() { tree.Get("a") },
		"Get of no key":  func() { tree.Get("") },
		"Scan":           func() { tree.Scan("", "") },
		"Image":          func() { tree.Image() },
	} {
		done := make(chan bool)
		tree.mutex.Lock()
		go func() {
			call()
			close(done)
		}()
		select {
		case <-done:
			t.Errorf("P1: %s does not wait for the tree's mutex", name)
		case <-time.After(50 * time.Millisecond):
		}
		tree.mutex.Unlock()
		<-done
		if !tree.mutex.TryLock() {
			t.Fatalf("P1: %s does not let go of the tree's mutex", name)
		}
		tree.mutex.Unlock()
	}
}
