package view_test

import (
	"math"
	"strconv"
	"strings"
	"testing"

	"joust/api"
)

// about gives a state whose car 0 is at a place, with three others near it: at just that far along X, one raw number nearer, one farther.
func about(p api.Vec, far int64) api.State {
	return api.State{
		Cars:  []api.Car{carAt(0, p), carAt(1, at(p.X+far, p.Y)), carAt(2, at(p.X+far+1, p.Y))},
		Shots: []api.Shot{shotAt(3, at(p.X+far-1, p.Y))},
	}
}

// P21.1: radius is kept within 0 and 1024 units: below 0, 0, at its bounds and above, at both ends of int.
func TestRadiusIsBounded(t *testing.T) {
	for _, p := range []api.Vec{at(0, 0), units(-700, 300), at(least, least), at(greatest-1<<40, 5)} {
		for _, radius := range []int{math.MinInt, math.MinInt + 1, -1 << 48, -1 << 32, -1025, -1024, -2, -1, 0} {
			wantSeen(t, about(p, 0), 0, radius, 32, "c1")
		}
		wantSeen(t, about(p, unit), 0, 1, 32, "c1 s3")
		wantSeen(t, about(p, unit), 0, 0, 32, "")
		wantSeen(t, about(p, 1023*unit), 0, 1023, 32, "c1 s3")
		wantSeen(t, about(p, 1024*unit), 0, 1023, 32, "")
		for _, radius := range []int{1024, 1025, 2048, 1 << 15, 1 << 16, 1 << 24, 1<<31 - 1, 1 << 31, 1 << 32, 1 << 47, 1 << 48, 1<<48 + 1, math.MaxInt - 1, math.MaxInt} {
			wantSeen(t, about(p, 1024*unit), 0, radius, 32, "c1 s3")
		}
	}
}

// P21.1: things just within, just at and just beyond the radius, along both parts, both ways, and aslant.
func TestAtTheRadius(t *testing.T) {
	for _, p := range []api.Vec{at(0, 0), at(-1, 65535), units(500, -500), at(-1<<40, 1<<40), at(greatest-1<<30, least+1<<30)} {
		for _, radius := range []int{1, 5, 100, 1024} {
			k := int64(radius) * unit
			a, b := k/5*3, k/5*4
			if k%5 != 0 { // k is a power of two, which is the long side of no triangle with whole sides
				a, b = k, 0
			}
			s := api.State{Cars: []api.Car{carAt(0, p)}}
			add := func(x, y int64) { s.Cars = append(s.Cars, carAt(len(s.Cars), at(p.X+x, p.Y+y))) }
			add(k, 0)
			add(-k, 0)
			add(0, k)
			add(0, -k)
			add(a, b)
			add(-b, a)
			add(b, -a)
			add(-a, -b)
			for _, x := range []int64{k + 1, -k - 1} {
				add(x, 0)
				add(0, x)
			}
			add(k, 1)
			add(-1, k)
			add(a+1, -b)
			add(k, k)
			for i := range s.Cars {
				s.Shots = append(s.Shots, shotAt(i, s.Cars[i].At))
			}
			wantSeen(t, s, 0, radius, 32, "c1 c2 c3 c4 c5 c6 c7 c8 s0 s1 s2 s3 s4 s5 s6 s7 s8")
			wantSeen(t, s, 0, radius-1, 32, "s0")
		}
	}
}

// P21.1 (Hard places): radius 0 sees things at just the own place.
func TestRadiusNothing(t *testing.T) {
	for _, p := range []api.Vec{at(0, 0), at(-1, -1), at(65536, 0), at(least, greatest), at(greatest, greatest), at(1<<40, -1<<40)} {
		near := at(p.X^1, p.Y)
		s := api.State{
			Cars:  []api.Car{carAt(0, p), carAt(1, near), carAt(2, p), carAt(3, at(p.X, p.Y^1)), wreckAt(4, p)},
			Shots: []api.Shot{shotAt(1, p), shotAt(2, near)},
		}
		for _, radius := range []int{0, -1, math.MinInt} {
			wantSeen(t, s, 0, radius, 32, "c2 s1")
			wantSeen(t, s, 1, radius, 32, "s2")
			wantSeen(t, s, 3, radius, 32, "")
			wantSeen(t, s, 4, radius, 32, "c0 c2 s1")
			wantSeen(t, s, 0, radius, 1, "c2")
		}
	}
}

// P21.1: places at the ends of int64: no sum wraps round, so that what is at one end is not near the other one.
func TestPlacesAtTheEnds(t *testing.T) {
	corners := []api.Vec{at(least, least), at(least, greatest), at(greatest, least), at(greatest, greatest)}
	var s api.State
	for i, p := range corners {
		inside := at(p.X-p.X/greatest, p.Y)
		s.Cars = append(s.Cars, carAt(i, p), carAt(10+i, inside))
		s.Shots = append(s.Shots, shotAt(i, p), shotAt(10+i, inside))
	}
	for i := range corners {
		n := strconv.Itoa(i)
		wantSeen(t, s, 2*i, 0, 32, "s"+n)
		wantSeen(t, s, 2*i, 1, 32, "c1"+n+" s"+n+" s1"+n)
		wantSeen(t, s, 2*i, math.MaxInt, math.MaxInt, "c1"+n+" s"+n+" s1"+n)
		wantSeen(t, s, 2*i+1, math.MaxInt, math.MaxInt, "c"+n+" s"+n+" s1"+n)
		wantSeen(t, s, 2*i, 1, 2, "c1"+n+" s"+n)
	}
}

// crowd is a state with so many cars about car 0 and so many shots: each is farther away than those ahead of it.
func crowd(cars, shots int) api.State {
	s := api.State{Cars: []api.Car{carAt(0, at(0, 0))}}
	for i := range cars {
		s.Cars = append(s.Cars, carAt(cars-i, at(0, int64(2*i+1))))
	}
	for i := range shots {
		s.Shots = append(s.Shots, shotAt(shots-i, at(int64(2*i+2), 0)))
	}
	return s
}

// names gives the words of numbers from the first to the last.
func names(kind string, first, last int) string {
	var words []string
	for i := first; i <= last; i++ {
		words = append(words, kind+strconv.Itoa(i))
	}
	return strings.Join(words, " ")
}

// P21.1: show is kept within 0 and 32: below 0, 0, at its bounds and above, at both ends of int; where there are fewer, just as many, one more, many more.
func TestShowIsBounded(t *testing.T) {
	for _, many := range []int{31, 32, 33, 34, 100, 400} {
		cars := crowd(many, 0)
		shots := crowd(0, many)
		for _, show := range []int{math.MinInt, math.MinInt + 1, -1 << 32, -33, -32, -2, -1, 0} {
			wantSeen(t, cars, 0, 1, show, "")
			wantSeen(t, shots, 0, 1, show, "")
		}
		for _, show := range []int{1, 2, 30, 31, 32, 33, 64, 255, 256, 1 << 32, 1<<32 + 1, math.MaxInt - 1, math.MaxInt} {
			first := max(1, many-min(show, 32)+1)
			wantSeen(t, cars, 0, 1, show, names("c", first, many))
			wantSeen(t, shots, 0, 1, show, names("s", first, many))
		}
	}
	// Of both kinds, so many that the nearest ones are half of each.
	s := crowd(50, 50)
	wantSeen(t, s, 0, 1, 32, names("c", 35, 50)+" "+names("s", 35, 50))
	wantSeen(t, s, 0, 1, 7, names("c", 47, 50)+" "+names("s", 48, 50))
}

// P21.1 (Hard places): equally far away ones, where there is no room for all: cars ahead of shots, then by Id; told by kind and Id, not by distance.
func TestEquallyFarAway(t *testing.T) {
	s := api.State{
		Cars: []api.Car{
			carAt(3, at(3, 4)), carAt(9, at(0, 0)), carAt(11, at(5, 0)), carAt(-2, at(-4, -3)), carAt(4, at(0, 6)), carAt(30, at(0, 1)),
		},
		Shots: []api.Shot{shotAt(12, at(0, -5)), shotAt(1, at(-5, 0)), shotAt(8, at(0, 1)), shotAt(5, at(6, 0)), shotAt(0, at(4, -3))},
	}
	// By distance: c30 s8 (1), c-2 c3 c11 s0 s1 s12 (5), c4 s5 (6).
	for show, want := range []string{
		"",
		"c30",
		"c30 s8",
		"c-2 c30 s8",
		"c-2 c3 c30 s8",
		"c-2 c3 c11 c30 s8",
		"c-2 c3 c11 c30 s0 s8",
		"c-2 c3 c11 c30 s0 s1 s8",
		"c-2 c3 c11 c30 s0 s1 s8 s12",
		"c-2 c3 c4 c11 c30 s0 s1 s8 s12",
		"c-2 c3 c4 c11 c30 s0 s1 s5 s8 s12",
		"c-2 c3 c4 c11 c30 s0 s1 s5 s8 s12",
	} {
		wantSeen(t, s, 1, 1, show, want)
	}
}

// P21.1: a nearer shot goes ahead of a farther car, a nearer one of a great number ahead of a farther one of a small number.
func TestDistanceGoesFirst(t *testing.T) {
	s := api.State{
		Cars:  []api.Car{carAt(0, at(0, 0)), carAt(1, units(1, 1)), carAt(2, at(unit, unit-1))},
		Shots: []api.Shot{shotAt(1, at(-unit, unit)), shotAt(2, at(1-unit, unit)), shotAt(3, at(unit-2, unit))},
	}
	for show, want := range []string{"", "s3", "c2 s3", "c2 s2 s3", "c1 c2 s2 s3", "c1 c2 s1 s2 s3"} {
		wantSeen(t, s, 0, 2, show, want)
	}
	wantSeen(t, s, 0, 1, 32, "")
}

// P21.1: what lies beyond the radius takes no room.
func TestBeyondTakesNoRoom(t *testing.T) {
	s := api.State{Cars: []api.Car{carAt(5, units(9, 9))}}
	for i := range 40 {
		s.Cars = append(s.Cars, carAt(10+i, units(20, 9)))
		s.Shots = append(s.Shots, shotAt(i, units(9, -2)))
	}
	s.Shots = append(s.Shots, shotAt(70, units(19, 9)))
	s.Cars = append(s.Cars, carAt(60, units(9, -1)))
	wantSeen(t, s, 0, 10, 32, "c60 s70")
	wantSeen(t, s, 0, 10, 1, "c60")
}
