package pegtable_test

import (
	"math/rand"
	"slices"

	"pegtable/api"
)

type entry struct {
	rule, place int
}

// pretended follows what a memory of the policy Oldest (or None) would hold, while the plain walk goes on without one: what is within a hit is walked through all the same, but counts as not done.
type pretended struct {
	config api.Config
	used   []entry // by the last use
	within int     // how many runs under way need not be done
	stats  api.Stats
}

func (m *pretended) begin(e entry) {
	if m.within > 0 || m.find(e) {
		m.within++
		return
	}
	m.stats.Runs++
}

func (m *pretended) find(e entry) bool {
	i := slices.Index(m.used, e)
	if i < 0 {
		return false
	}
	m.stats.Hits++
	m.used = append(slices.Delete(m.used, i, i+1), e)
	return true
}

func (m *pretended) end(e entry) {
	if m.within > 0 {
		m.within--
		return
	}
	if m.config.Policy == api.None || m.config.Budget == 0 || m.config.Mask>>e.rule&1 == 0 {
		return
	}
	if len(m.used) == m.config.Budget {
		m.used = m.used[1:]
	}
	m.used = append(m.used, e)
	m.stats.Live = len(m.used)
	m.stats.Peak = max(m.stats.Peak, m.stats.Live)
}

// madeUpMemories are of each policy, with all the edges of budgets (all: the entries that there could be) and any masks.
func madeUpMemories(random *rand.Rand, all int) []*pretended {
	budgets := []int{0, 1, 2, 3, 7, all - 1, all, all + 1, api.MaxBudget}
	masks := []int{0, 1, 2, 4, 255, 255, 255, 254, random.Intn(256)}
	var memories []*pretended
	for _, policy := range []int{api.None, api.Direct, api.Direct, api.Oldest, api.Oldest, api.Oldest} {
		memories = append(memories, &pretended{config: api.Config{
			Policy: policy,
			Budget: min(budgets[random.Intn(len(budgets))], api.MaxBudget),
			Mask:   masks[random.Intn(len(masks))],
		}})
	}
	return memories
}
