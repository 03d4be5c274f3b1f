package memory

// oldest holds the entries in a ring, by their last use. ends is no entry: the newest is the one older than it, the oldest the one newer.
type oldest struct {
	ends link
	free int
}

func newOldest(budget int) *oldest {
	o := &oldest{free: budget}
	o.ends.older, o.ends.newer = &o.ends, &o.ends
	return o
}

func (o *oldest) add(l *link) *link {
	var gone *link
	if o.free > 0 {
		o.free--
	} else {
		gone = o.ends.newer
		gone.takeOut()
	}
	o.putNewest(l)
	return gone
}

func (o *oldest) use(l *link) {
	l.takeOut()
	o.putNewest(l)
}

func (l *link) takeOut() {
	l.older.newer, l.newer.older = l.newer, l.older
}

func (o *oldest) putNewest(l *link) {
	l.older, l.newer = o.ends.older, &o.ends
	l.older.newer, l.newer.older = l, l
}
