package view

import (
	"cmp"
	"iter"
	"slices"
	"strings"

	"joust/api"
	"joust/grid"
)

// scene is an arena as it is looked at. Of what may be seen it has no more than may be told of it, so that nothing else can come into a view.
type scene struct {
	tick   uint64
	radius int64 // raw
	show   int
	cars   []api.Car  // the first of each Player, by Player, rising
	things []api.Seen // all that may be seen, in the order in which it is told
	places *grid.Grid // where they are, by their numbers in that list
}

func sceneOf(s api.State, radius, show int) *scene {
	all := &scene{
		tick:   s.Tick,
		radius: api.One * int64(kept(radius, api.MaxRadius)),
		show:   kept(show, api.MaxShow),
		cars:   firsts(s.Cars, func(c api.Car) int { return c.Player }),
	}
	// No such side is refused, as the radius is bounded.
	all.places, _ = grid.New(max(api.One, all.radius))
	for _, c := range all.cars {
		if c.Wait <= 0 {
			all.lay(api.Seen{Kind: api.SeenCar, Id: c.Player, At: c.At, Heading: c.Heading})
		}
	}
	for _, x := range firsts(s.Shots, func(x api.Shot) int { return x.Id }) {
		all.lay(api.Seen{Kind: api.SeenShot, Id: x.Id, At: x.At})
	}
	return all
}

// kept keeps a number within 0 and most.
func kept(x, most int) int { return max(0, min(x, most)) }

// firsts gives of each number the first thing that has it, by the numbers, rising.
func firsts[T any](list []T, number func(T) int) []T {
	list = slices.Clone(list)
	slices.SortStableFunc(list, func(a, b T) int { return cmp.Compare(number(a), number(b)) })
	return slices.CompactFunc(list, func(a, b T) bool { return number(a) == number(b) })
}

// lay lays a thing behind all others.
func (s *scene) lay(x api.Seen) {
	s.places.Put(len(s.things), x.At)
	s.things = append(s.things, x)
}

// view is what the player of a car may see, the car itself whole.
func (s *scene) view(own api.Car) api.View {
	own.Name = strings.Clone(own.Name)
	return api.View{Tick: s.tick, Own: own, Seen: s.seen(own)}
}

// seen tells what may be seen from a car.
func (s *scene) seen(own api.Car) []api.Seen {
	var told []api.Seen
	// The car itself may be among the near ones, and is not to take another one's room.
	for x := range s.nearest(own.At, s.show+1) {
		if len(told) == s.show {
			break
		}
		if x.Kind != api.SeenCar || x.Id != own.Player {
			told = append(told, x)
		}
	}
	slices.SortFunc(told, func(a, b api.Seen) int {
		return cmp.Or(cmp.Compare(a.Kind, b.Kind), cmp.Compare(a.Id, b.Id))
	})
	return told
}

// nearest goes through the n things that are nearest to a place, within the radius. Of those equally far away the grid gives the lesser number first, and the numbers rise as things are told.
func (s *scene) nearest(at api.Vec, n int) iter.Seq[api.Seen] {
	return func(yield func(api.Seen) bool) {
		for _, i := range s.places.Nearest(at, s.radius, n) {
			if !yield(s.things[i]) {
				return
			}
		}
	}
}
