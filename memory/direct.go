package memory

import "pegtable/api"

// direct has a place for each key, which keys that are far enough from one another share.
type direct struct {
	places []*link
	rules  int
}

func newDirect(budget, rules int) *direct {
	return &direct{places: make([]*link, budget), rules: rules}
}

func (d *direct) add(l *link) *link {
	place := d.number(l.key) % len(d.places)
	gone := d.places[place]
	d.places[place] = l
	return gone
}

func (d *direct) use(*link) {}

// number counts the keys without a gap within an input, so that nothing goes where there is room for all.
func (d *direct) number(key Key) int {
	return (key.Input*(api.MaxInput+1)+key.Place)*d.rules + key.Rule
}
