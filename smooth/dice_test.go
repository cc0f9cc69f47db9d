package smooth_test

import (
	"math"

	"joust/api"
)

// roll gives numbers that follow no rule a program could be after, the same ones always.
type roll struct{ x uint64 }

func dice(seed uint64) *roll { return &roll{88172645463325252 + seed*7919} }

func (d *roll) number() uint64 {
	d.x ^= d.x << 13
	d.x ^= d.x >> 7
	d.x ^= d.x << 17
	return d.x
}

func (d *roll) below(n int) int { return int(d.number()>>8) % n }

// raw gives an int64 of any size.
func (d *roll) raw() int64 {
	size := d.below(64)
	return int64(d.number()) >> size
}

func (d *roll) vec() api.Vec { return api.Vec{X: d.raw(), Y: d.raw()} }

// float gives a float32 of any bits: infinities and what is no number are among them.
func (d *roll) float() float32 { return math.Float32frombits(uint32(d.number() >> 16)) }

// angle gives one from 0 to below 360, often one at a heading.
func (d *roll) angle() float32 {
	if d.below(2) == 0 {
		return float32(d.below(256)) * 1.40625
	}
	f := float32(d.number()>>40) / (1 << 24) * 360
	if f >= 360 {
		return 0
	}
	return f
}

// share gives a time, mostly between 0 and 1.
func (d *roll) share() float32 {
	if d.below(4) > 0 {
		return float32(d.number()>>40) / (1 << 24)
	}
	all := shares()
	return all[d.below(len(all))]
}

func (d *roll) car() api.Car {
	return api.Car{Player: d.below(2), Name: "x", At: d.vec(), Speed: d.vec(), Heading: int(d.raw()), Wait: d.below(4) - 2}
}

// view gives one whose things are few, so that two views have many in common, in any order, some of them twice.
func (d *roll) view() api.View {
	v := api.View{Tick: d.number(), Own: d.car()}
	for range d.below(12) {
		v.Seen = append(v.Seen, api.Seen{Kind: d.below(3), Id: d.below(5) - 1, At: d.vec(), Heading: int(d.raw())})
	}
	return v
}
