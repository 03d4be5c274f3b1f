package pegtable

import (
	"slices"
	"sync"

	"pegtable/api"
	"pegtable/walk"
)

// mostInputs is the one bound of the document that has no name in package api.
const mostInputs = 20

// Many parses inputs beside one another (P9).
func (p *Parser) Many(inputs ...string) ([]api.Answer, api.Errno) {
	if len(inputs) > mostInputs || slices.ContainsFunc(inputs, isLong) {
		return nil, api.ErrLong
	}
	answers, ok := p.walkAll(inputs...)
	if !ok {
		return nil, api.ErrSpent
	}
	return answers, api.OK
}

// walkAll tells false, if too many runs count for one of the inputs. All walks are waited for even then: which is spent first hangs on how they run.
func (p *Parser) walkAll(inputs ...string) ([]api.Answer, bool) {
	ground := walk.NewGround(p.grammar, p.config)
	answers := make([]api.Answer, len(inputs))
	ended := make([]bool, len(inputs))
	var wait sync.WaitGroup
	for i, input := range inputs {
		wait.Add(1)
		go func() {
			defer wait.Done()
			answers[i], _, ended[i] = ground.Walk(i, input)
		}()
	}
	wait.Wait()
	return answers, !slices.Contains(ended, false)
}
