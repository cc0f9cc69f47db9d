package shot_test

import (
	"slices"
	"strings"
	"testing"
	"unsafe"

	"joust/api"
	"joust/shot"
)

// share tells whether two texts have bytes in common.
func share(a, b string) bool {
	if a == "" || b == "" {
		return false
	}
	firstA, firstB := uintptr(unsafe.Pointer(unsafe.StringData(a))), uintptr(unsafe.Pointer(unsafe.StringData(b)))
	return firstA < firstB+uintptr(len(b)) && firstB < firstA+uintptr(len(a))
}

// R11: the name of a car that fires, or may not, is a text of its own, and two answers share none.
func TestNamesShareNothing(t *testing.T) {
	for _, wait := range []int{0, 40} {
		for _, name := range []string{"", "a", "ann of old", "\xff\x00", strings.Repeat("\xc3", 70000)} {
			given := loaded()
			given.Name, given.Wait = strings.Clone(name), wait
			one, _, _ := shot.Fire(given, 1)
			other, _, _ := shot.Fire(given, 1)
			if share(one.Name, given.Name) || share(one.Name, other.Name) || one.Name != name {
				t.Errorf("Wait %d: the name %.40q shares memory, or is another one", wait, one.Name)
			}
		}
	}
}

// 16.5: cars that are handed in stay as they are, the room behind the list too; what lies there is not hit.
func TestCarsStay(t *testing.T) {
	d := dice(8)
	for _, b := range boards(t) {
		for range 2000 {
			s := d.shot(b)
			all := append(d.carsAbout(b, s), d.carsAbout(b, s)...)
			given := all[:d.below(len(all)+1)]
			before := slices.Clone(all)
			got, hit, on := shot.Move(b, given, s)
			if !slices.Equal(all, before) {
				t.Fatalf("Move(%+v) has made %+v of %+v", s, all, before)
			}
			want, wantHit, wantOn, _ := plainMove(b, slices.Clip(slices.Clone(given)), s)
			if got != want || hit != wantHit || on != wantOn {
				t.Fatalf("Move(%+v, %+v) = %+v, %d, %v, want %+v, %d, %v", given, s, got, hit, on, want, wantHit, wantOn)
			}
		}
	}
}

// R13: the same arguments have the same answer, whatever was asked between; a board stays as it is.
func TestOneAnswer(t *testing.T) {
	d := dice(55)
	for _, b := range boards(t) {
		print := b.Print()
		c := loaded()
		s := d.shot(b)
		cars := d.carsAbout(b, s)
		fired, shell, _ := shot.Fire(c, 3)
		flown, hit, on := shot.Move(b, cars, s)
		for range 200 {
			other := d.shot(b)
			shot.Move(b, d.carsAbout(b, other), other)
			shot.Fire(d.car(), d.number())
			if x, y, ok := shot.Fire(c, 3); x != fired || y != shell || !ok {
				t.Fatalf("Fire(%+v) = %+v, %+v, once it was %+v, %+v", c, x, y, fired, shell)
			}
			if x, n, ok := shot.Move(b, cars, s); x != flown || n != hit || ok != on {
				t.Fatalf("Move(%+v) = %+v, %d, %v, once it was %+v, %d, %v", s, x, n, ok, flown, hit, on)
			}
		}
		if b.Print() != print {
			t.Fatalf("the board %q has become %q", print, b.Print())
		}
	}
}

// 16.2, R11: nil and empty lists mean the same.
func TestNoCars(t *testing.T) {
	d := dice(4)
	for _, b := range boards(t) {
		for range 500 {
			s := d.shot(b)
			one, oneHit, oneOn := shot.Move(b, nil, s)
			other, otherHit, otherOn := shot.Move(b, make([]api.Car, 0, 3), s)
			if one != other || oneHit != -1 || otherHit != -1 || oneOn != otherOn {
				t.Fatalf("Move(%+v) = %+v, %d, %v without a list, %+v, %d, %v with an empty one", s, one, oneHit, oneOn, other, otherHit, otherOn)
			}
		}
	}
}
