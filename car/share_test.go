package car_test

import (
	"strings"
	"testing"
	"unsafe"

	"joust/api"
	"joust/board"
	"joust/car"
)

// share tells whether two texts have bytes in common.
func share(a, b string) bool {
	if a == "" || b == "" {
		return false
	}
	firstA, firstB := uintptr(unsafe.Pointer(unsafe.StringData(a))), uintptr(unsafe.Pointer(unsafe.StringData(b)))
	return firstA < firstB+uintptr(len(b)) && firstB < firstA+uintptr(len(a))
}

// calls gives all calls that answer a car, of one car each.
func calls(b *board.Board) map[string]func(c api.Car) api.Car {
	return map[string]func(c api.Car) api.Car{
		"New":   func(c api.Car) api.Car { return car.New(b, c.Player, c.Name) },
		"Come":  func(c api.Car) api.Car { return car.Come(b, c) },
		"Drive": func(c api.Car) api.Car { return car.Drive(b, c, api.Intent{Throttle: 7}) },
		"Rest":  func(c api.Car) api.Car { return car.Rest(b, c, 8) },
		"Hit":   func(c api.Car) api.Car { return car.Hit(c, 20) },
		"Bump, the first": func(c api.Car) api.Car {
			first, _, _ := car.Bump(c, c)
			return first
		},
		"Bump, the second": func(c api.Car) api.Car {
			_, second, _ := car.Bump(c, c)
			return second
		},
	}
}

// R11: a car's name is a text of its own, be it a wreck's or not, and two answers share none.
func TestNamesShareNothing(t *testing.T) {
	b := parsed(t, example)
	for what, call := range calls(b) {
		for _, wait := range []int{0, 40} {
			given := api.Car{Player: 1, Name: strings.Clone("ann of old"), At: units(20, 20), Health: 50, Wait: wait}
			one, other := call(given), call(given)
			if share(one.Name, given.Name) || share(one.Name, other.Name) || one.Name != "ann of old" {
				t.Errorf("%s: the name %q shares memory, or is another one", what, one.Name)
			}
		}
	}
	c := api.Car{Name: strings.Clone("both")}
	for _, far := range []int64{0, 9} {
		d := c
		d.At = units(far, far)
		if x, y, _ := car.Bump(c, d); share(x.Name, y.Name) {
			t.Error("the names of two cars that bump share memory")
		}
	}
}

// P15.1 to P15.6: a name of any bytes stays as it is.
func TestNamesOfAnyBytes(t *testing.T) {
	b := parsed(t, example)
	for what, call := range calls(b) {
		for _, name := range []string{"", " ", "\x00", "\xff\x00a", "\u2588\n", strings.Repeat("\xc3", 70000)} {
			for _, wait := range []int{0, 40} {
				if got := call(api.Car{Player: 1, Name: name, At: units(20, 20), Wait: wait}).Name; got != name {
					t.Errorf("%s: the name %.40q, want %.40q", what, got, name)
				}
			}
		}
	}
}

// R13: the same arguments have the same answer, whatever was asked between; a board stays as it is.
func TestOneAnswer(t *testing.T) {
	d := dice(8)
	for _, b := range boards(t) {
		print := b.Print()
		c := d.car(b)
		c.Wait = 0
		for what, call := range calls(b) {
			want := call(c)
			for range 50 {
				other := d.car(b)
				for _, x := range calls(b) {
					x(other)
				}
				if got := call(c); got != want {
					t.Fatalf("%s(%+v) = %+v, once it was %+v", what, c, got, want)
				}
			}
		}
		if b.Print() != print {
			t.Fatalf("the board %q has become %q", print, b.Print())
		}
	}
}
