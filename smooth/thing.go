package smooth

import "joust/api"

// thing is what makes two that are seen in two views one and the same.
type thing struct{ kind, id int }

func thingOf(s api.Seen) thing { return thing{s.Kind, s.Id} }

// firstOnes finds what is seen by its kind and id, so that two long views are not held against each other all by all. Of two that are one thing the first counts.
func firstOnes(seen []api.Seen) map[thing]api.Seen {
	first := map[thing]api.Seen{}
	for _, s := range seen {
		if _, ok := first[thingOf(s)]; !ok {
			first[thingOf(s)] = s
		}
	}
	return first
}
