package memory

import (
	"math/rand"
	"slices"
	"sync"
	"testing"

	"pegtable/api"
)

// made gives a memory for runs of three rules, in which the numbers are kept as rules at places.
func made(policy, budget, mask int) *Memory[int] {
	return New[int](api.Config{Policy: policy, Budget: budget, Mask: mask, Runs: 1}, 3)
}

func holdStats(t *testing.T, m *Memory[int], want api.Stats) {
	t.Helper()
	if got := m.Stats(); got != want {
		t.Errorf("P8: Stats = %+v, want %+v", got, want)
	}
}

func TestWithoutMemoryNothingIsKept(t *testing.T) {
	for _, m := range []*Memory[int]{made(api.None, 9, 7), made(api.Direct, 0, 7), made(api.Oldest, 0, 7), made(api.Direct, 9, 0), made(api.Oldest, 9, 8)} {
		for rule := range 3 {
			m.Keep(Key{Rule: rule}, 1)
			if got, found := m.Find(Key{Rule: rule}); found || got != 0 {
				t.Errorf("P8: rule %d is found: %d", rule, got)
			}
		}
		holdStats(t, m, api.Stats{})
	}
}

func TestOnlyRulesOfTheMaskAreKept(t *testing.T) {
	for _, policy := range []int{api.Direct, api.Oldest} {
		for mask := range 8 {
			m := made(policy, 9, mask)
			want := api.Stats{}
			for rule := range 3 {
				m.Keep(Key{Rule: rule}, rule)
				_, found := m.Find(Key{Rule: rule})
				if found != (mask>>rule&1 == 1) {
					t.Errorf("P8: policy %d, mask %d, rule %d: found: %t", policy, mask, rule, found)
				}
				if found {
					want = api.Stats{Live: want.Live + 1, Peak: want.Peak + 1, Hits: want.Hits + 1}
				}
			}
			holdStats(t, m, want)
		}
	}
}

func TestEachPartOfAKeyCounts(t *testing.T) {
	for _, policy := range []int{api.Direct, api.Oldest} {
		m := made(policy, api.MaxBudget, 7)
		n := 0
		for _, key := range []Key{{0, 0, 0}, {0, 0, 1}, {0, 1, 0}, {1, 0, 0}, {1, 1, 1}, {0, 2, 60}, {1, 2, 59}} {
			if got, found := m.Find(key); found {
				t.Errorf("policy %d: %v is there already: %d", policy, key, got)
			}
			n++
			m.Keep(key, n)
			if got, found := m.Find(key); !found || got != n {
				t.Errorf("policy %d: %v is %d, %t, want %d", policy, key, got, found, n)
			}
		}
		holdStats(t, m, api.Stats{Live: n, Peak: n, Hits: n})
	}
}

func TestWhatIsKeptAgainTakesNoRoom(t *testing.T) {
	for _, policy := range []int{api.Direct, api.Oldest} {
		m := made(policy, 2, 7)
		for i := range 5 {
			m.Keep(Key{Place: 0}, i)
		}
		m.Keep(Key{Place: 1}, 7)
		first, ok := m.Find(Key{Place: 0})
		second, also := m.Find(Key{Place: 1})
		if !ok || !also || first != 4 || second != 7 {
			t.Errorf("policy %d: found %d, %t and %d, %t", policy, first, ok, second, also)
		}
		holdStats(t, m, api.Stats{Live: 2, Peak: 2, Hits: 2})
	}
}

// TestOldestGoes holds the memory against a row of keys by their last use.
func TestOldestGoes(t *testing.T) {
	random := rand.New(rand.NewSource(1))
	for _, budget := range []int{1, 2, 3, 10, 89, 90, 91, api.MaxBudget} {
		m := made(api.Oldest, budget, 7)
		values := map[Key]int{}
		var used []Key
		want := api.Stats{}
		for n := range 5000 {
			key := Key{random.Intn(3), random.Intn(3), random.Intn(10)}
			i := slices.Index(used, key)
			if random.Intn(2) == 0 {
				got, found := m.Find(key)
				if found != (i >= 0) || found && got != values[key] {
					t.Fatalf("P8: budget %d: %v is %d, %t, kept: %v", budget, key, got, found, used)
				}
				if i < 0 {
					continue
				}
				want.Hits++
			} else {
				m.Keep(key, n)
				values[key] = n
			}
			if i >= 0 {
				used = slices.Delete(used, i, i+1)
			} else if len(used) == budget {
				used = used[1:]
			}
			used = append(used, key)
			want.Live, want.Peak = len(used), max(want.Peak, len(used))
			holdStats(t, m, want)
		}
	}
}

// TestDirectGivesUpAtMostOne: a new entry is there, and at most one that was there has gone for it.
func TestDirectGivesUpAtMostOne(t *testing.T) {
	random := rand.New(rand.NewSource(1))
	for _, budget := range []int{1, 2, 7, 100} {
		m := made(api.Direct, budget, 7)
		values := map[Key]int{}
		for n := range 3000 {
			key := Key{random.Intn(20), random.Intn(3), random.Intn(61)}
			before := len(values)
			values[key] = n
			all := len(values)
			m.Keep(key, n)
			for key, value := range values {
				got, found := m.Find(key)
				if found && got != value {
					t.Fatalf("%v is %d, want %d", key, got, value)
				}
				if !found {
					delete(values, key)
				}
			}
			live := m.Stats().Live
			if _, is := values[key]; !is || live != len(values) || live > budget || live < before || all == before && live < all {
				t.Fatalf("P8: budget %d: %v is there: %t; %d of %d entries, Live %d", budget, key, is, len(values), all, live)
			}
		}
	}
}

// TestDirectWithRoomForAllForgetsNothing: with three rules an input of nine bytes has 30 entries.
func TestDirectWithRoomForAllForgetsNothing(t *testing.T) {
	for _, budget := range []int{30, 31, 47, api.MaxBudget} {
		m := made(api.Direct, budget, 7)
		for place := range 10 {
			for rule := range 3 {
				m.Keep(Key{Rule: rule, Place: place}, 1)
			}
		}
		holdStats(t, m, api.Stats{Live: 30, Peak: 30})
	}
	m := made(api.Direct, 29, 7)
	m.Keep(Key{Rule: 0, Place: 0}, 1)
	m.Keep(Key{Rule: 2, Place: 9}, 1)
	holdStats(t, m, api.Stats{Live: 1, Peak: 1})
}

func TestSeveralUseAMemoryBesideOneAnother(t *testing.T) {
	for _, policy := range []int{api.Direct, api.Oldest} {
		for _, budget := range []int{1, 50, api.MaxBudget} {
			m := made(policy, budget, 7)
			var wait sync.WaitGroup
			for input := range 20 {
				wait.Go(func() {
					for n := range 2000 {
						key := Key{input, n % 3, n * 7 % 61}
						if got, found := m.Find(key); found && got != input {
							t.Errorf("%v is %d", key, got)
						}
						m.Keep(key, input)
					}
				})
			}
			wait.Wait()
			if got := m.Stats(); got.Live != budget || got.Peak != budget {
				t.Errorf("P8: policy %d, budget %d: %+v", policy, budget, got)
			}
		}
	}
}
