package pegtable

import "pegtable/api"

// allRules is the Mask of all rules that there may be.
const allRules = 1<<api.MaxRules - 1

func mayBe(c api.Config) bool {
	return isWithin(c.Policy, api.None, api.Oldest) &&
		isWithin(c.Budget, 0, api.MaxBudget) &&
		isWithin(c.Mask, 0, allRules) &&
		isWithin(c.Runs, 1, api.MaxRuns)
}

func isWithin(n, least, most int) bool {
	return least <= n && n <= most
}
