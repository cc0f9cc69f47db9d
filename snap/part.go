package snap

import (
	"joust/api"
	"joust/pack"
)

// mostSeen is how many may be seen: their number has one byte.
const mostSeen = 255

// part of a view as bytes: how it is laid, and how it is taken.
type part struct {
	lay  func(w *pack.Writer)
	take func(r *pack.Reader)
}

// each goes over all parts of a view, in their order. Both ways go over it, so that what is taken is what was laid. Who takes has an empty list of those seen at first: taking their number, which is the last part of the head, makes the list.
func each(v *api.View, do func(part)) {
	for _, p := range head(v) {
		do(p)
	}
	for i := range v.Seen {
		for _, p := range thing(&v.Seen[i]) {
			do(p)
		}
	}
}

// head is all that stands ahead of those seen.
func head(v *api.View) []part {
	own := &v.Own
	return []part{
		plain(&v.Tick, 8),
		plain(&own.Player, 1),
		text(&own.Name),
		signed(&own.At.X), signed(&own.At.Y),
		signed(&own.Speed.X), signed(&own.Speed.Y),
		signed(&own.Heading),
		signed(&own.Health),
		signed(&own.Energy),
		signed(&own.Ammo),
		signed(&own.Cool),
		signed(&own.Wait),
		signed(&own.Spawns),
		signed(&own.Score),
		count(&v.Seen),
	}
}

// thing is one of those seen.
func thing(x *api.Seen) []part {
	return []part{
		plain(&x.Kind, 1),
		signed(&x.Id),
		signed(&x.At.X), signed(&x.At.Y),
		plain(&x.Heading, 1),
	}
}

// plain is a number without a sign. An int has one byte here: taken without its sign, one below 0 is beyond all that a byte holds, and so is refused.
func plain[P int | uint64](place *P, size int) part {
	return number(place, size, (*pack.Writer).Number, (*pack.Reader).Number)
}

// signed is a number of eight bytes with its sign, so that any fits.
func signed[P int | int64](place *P) part {
	return number(place, 8, (*pack.Writer).Signed, (*pack.Reader).Signed)
}

// number is one that a writer's function lays, and the reader's function of the same name takes.
func number[P int | int64 | uint64, N int64 | uint64](place *P, size int, lay func(*pack.Writer, N, int), take func(*pack.Reader, int) N) part {
	return part{
		lay:  func(w *pack.Writer) { lay(w, N(*place), size) },
		take: func(r *pack.Reader) { *place = P(take(r, size)) },
	}
}

// text is one with its length ahead.
func text(place *string) part {
	lay, take := (*pack.Writer).Text, (*pack.Reader).Text
	return part{
		lay:  func(w *pack.Writer) { lay(w, *place) },
		take: func(r *pack.Reader) { *place = take(r) },
	}
}

// count is how many there are of a list, whose things come behind.
func count(place *[]api.Seen) part {
	return part{
		lay:  func(w *pack.Writer) { w.Number(uint64(len(*place)), 1) },
		take: func(r *pack.Reader) { *place = make([]api.Seen, r.Number(1)) },
	}
}
