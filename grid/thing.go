package grid

import (
	"cmp"
	"slices"

	"joust/api"
)

// The lists that a thing stands in: that of the whole grid, and that of its cell.
const (
	inGrid = iota
	inCell
	lists
)

// thing is an id at a place. It knows where it stands in its lists, so that it goes out of them without a search.
type thing struct {
	id    int
	at    api.Vec
	stand [lists]int
}

func (t *thing) number() int64 { return int64(t.id) }

// lay lays a thing at a list's end.
func lay(list []*thing, kind int, t *thing) []*thing {
	t.stand[kind] = len(list)
	return append(list, t)
}

// drop takes a thing out of a list, whose order does not matter: the last one comes to stand there.
func drop(list []*thing, kind int, t *thing) []*thing {
	end := len(list) - 1
	last := list[end]
	last.stand[kind] = t.stand[kind]
	list[t.stand[kind]] = last
	// A thing that was deleted is not kept by the list's spare room.
	list[end] = nil
	return list[:end]
}

// sortBy sorts a list by the first key; those that are alike in it by the next one.
func sortBy[T any, K cmp.Ordered](list []T, keys ...func(T) K) {
	slices.SortFunc(list, func(a, b T) int {
		for _, key := range keys {
			if order := cmp.Compare(key(a), key(b)); order != 0 {
				return order
			}
		}
		return 0
	})
}

// numbers gives the ids of things, in their order.
func numbers(list []*thing) []int {
	ids := make([]int, 0, len(list))
	for _, t := range list {
		ids = append(ids, t.id)
	}
	return ids
}
