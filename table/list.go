package table

// list is a row of entries in the order of use: the first was not used for the longest time.
type list[V any] struct{ first, last *entry[V] }

// entry is a key and what is there under it; it knows its neighbours in the row, so that it goes out of the middle without a search.
type entry[V any] struct {
	key           string
	thing         V
	ahead, behind *entry[V]
}

// add makes an entry that is not in the row its last.
func (l *list[V]) add(e *entry[V]) {
	e.ahead, e.behind = l.last, nil
	if l.last == nil {
		l.first = e
	} else {
		l.last.behind = e
	}
	l.last = e
}

// remove takes an entry out of the row; the others stay in their order.
func (l *list[V]) remove(e *entry[V]) {
	if e.ahead == nil {
		l.first = e.behind
	} else {
		e.ahead.behind = e.behind
	}
	if e.behind == nil {
		l.last = e.ahead
	} else {
		e.behind.ahead = e.ahead
	}
}

// renew makes an entry of the row its last.
func (l *list[V]) renew(e *entry[V]) {
	l.remove(e)
	l.add(e)
}
