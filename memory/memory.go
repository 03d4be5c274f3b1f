// Package memory keeps what came of runs of rules, in a memory of bounded size that forgets as it must.
package memory

import (
	"sync"

	"pegtable/api"
)

// Key tells a run: which input, which rule, which place.
type Key struct {
	Input, Rule, Place int
}

// Memory may be used by several walks beside one another.
type Memory[V any] struct {
	mask    int
	order   order
	lock    sync.Mutex
	entries map[Key]*entry[V]
	hits    int
}

type entry[V any] struct {
	link
	value V
}

// link is what an order knows of an entry.
type link struct {
	key          Key
	older, newer *link
}

// order decides which entry goes for a new one.
type order interface {
	// add gives the entry that goes, or nil.
	add(l *link) *link
	use(l *link)
}

// New gives an empty memory for the runs of that many rules.
func New[V any](c api.Config, rules int) *Memory[V] {
	m := &Memory[V]{entries: map[Key]*entry[V]{}}
	if c.Budget == 0 {
		return m
	}
	switch c.Policy {
	case api.Direct:
		m.mask, m.order = c.Mask, newDirect(c.Budget, rules)
	case api.Oldest:
		m.mask, m.order = c.Mask, newOldest(c.Budget)
	}
	return m
}

// Find gives what was kept, if it is still there.
func (m *Memory[V]) Find(key Key) (V, bool) {
	m.lock.Lock()
	defer m.lock.Unlock()
	e, found := m.entries[key]
	if !found {
		var nothing V
		return nothing, false
	}
	m.hits++
	m.order.use(&e.link)
	return e.value, true
}

// Keep does nothing for a rule that isn't to be remembered.
func (m *Memory[V]) Keep(key Key, value V) {
	if m.mask>>key.Rule&1 == 0 {
		return
	}
	m.lock.Lock()
	defer m.lock.Unlock()
	if e, found := m.entries[key]; found {
		e.value = value
		m.order.use(&e.link)
		return
	}
	e := &entry[V]{link: link{key: key}, value: value}
	if gone := m.order.add(&e.link); gone != nil {
		delete(m.entries, gone.key)
	}
	m.entries[key] = e
}

// Stats tells all but the runs, of which a memory knows nothing. An entry goes only for another one, so there never were more than there are.
func (m *Memory[V]) Stats() api.Stats {
	m.lock.Lock()
	defer m.lock.Unlock()
	live := len(m.entries)
	return api.Stats{Live: live, Peak: live, Hits: m.hits}
}
