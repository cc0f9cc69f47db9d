package view_test

import (
	"math"
	"reflect"
	"slices"
	"strings"
	"testing"

	"joust/api"
	"joust/view"
)

// wantEqual asks both ways.
func wantEqual(t *testing.T, what string, a, b api.View, want bool) {
	t.Helper()
	if view.Equal(a, b) != want || view.Equal(b, a) != want {
		t.Errorf("%s: Equal(%+v, %+v): not %v", what, a, b, want)
	}
}

// some gives views of which no two are alike.
func some() []api.View {
	car := api.Seen{Kind: 1, Id: 3, At: at(4, 5), Heading: 6}
	shot := api.Seen{Kind: 2, Id: 3, At: at(4, 5)}
	own := api.Car{Player: 1, Name: "ann", At: at(2, 3), Speed: at(4, 5), Heading: 6, Health: 7, Energy: 8, Ammo: 9, Cool: 10, Wait: 11, Spawns: 12, Score: 13}
	return []api.View{
		{},
		{Tick: 1},
		{Own: own},
		{Seen: []api.Seen{{}}},
		{Seen: []api.Seen{{}, {}}},
		{Tick: 1, Own: own, Seen: []api.Seen{car}},
		{Tick: 1, Own: own, Seen: []api.Seen{shot}},
		{Tick: 1, Own: own, Seen: []api.Seen{car, shot}},
		{Tick: 1, Own: own, Seen: []api.Seen{shot, car}},
		{Tick: 1, Own: own, Seen: []api.Seen{car, shot, shot}},
		{Tick: 1, Own: own, Seen: []api.Seen{car, car, shot}},
		{Tick: math.MaxUint64, Own: api.Car{At: at(least, greatest), Heading: math.MinInt}, Seen: []api.Seen{{Kind: math.MaxInt, Id: math.MinInt, At: at(least, greatest), Heading: math.MaxInt}}},
	}
}

// P21.3: each view is like itself and like no other.
func TestEqual(t *testing.T) {
	for i, a := range some() {
		for k, b := range some() {
			wantEqual(t, "two views", a, b, i == k)
		}
	}
}

// parts gives all numbers and texts that a value is made of; lists by their things.
func parts(v reflect.Value) []reflect.Value {
	var list []reflect.Value
	switch v.Kind() {
	case reflect.Struct:
		for i := range v.NumField() {
			list = append(list, parts(v.Field(i))...)
		}
		return list
	case reflect.Slice:
		for i := range v.Len() {
			list = append(list, parts(v.Index(i))...)
		}
		return list
	}
	return []reflect.Value{v}
}

// changes gives other values for a number or a text, that differ from it much, or by a bit alone.
func changes(v reflect.Value) []any {
	switch x := v.Interface().(type) {
	case int:
		return []any{x + 1, x - 1, x ^ 256, x ^ 1<<32, x ^ math.MinInt}
	case int64:
		return []any{x + 1, x - 1, x ^ 256, x ^ 1<<32, x ^ least}
	case uint64:
		return []any{x + 1, x - 1, x ^ 256, x ^ 1<<32, x ^ 1<<63}
	case string:
		return []any{x + "x", x + "\x00", "x" + x, strings.Repeat("y", len(x)+3)}
	}
	panic("no change for " + v.Kind().String())
}

// P21.3: views that differ in a single field, each of Tick, of Own and of each that is seen.
func TestEqualLooksAtEveryField(t *testing.T) {
	const own, seen = 14, 5
	for _, v := range some() {
		other := copyOf(v)
		fields := parts(reflect.ValueOf(&other).Elem())
		if want := 1 + own + seen*len(v.Seen); len(fields) != want {
			t.Fatalf("%d fields, want %d", len(fields), want)
		}
		for _, f := range fields {
			then := f.Interface()
			for _, x := range changes(f) {
				f.Set(reflect.ValueOf(x))
				wantEqual(t, "one field differs", v, other, false)
			}
			f.Set(reflect.ValueOf(then))
			wantEqual(t, "back again", v, other, true)
		}
	}
}

// P21.3: the order of what is seen counts, and how many there are.
func TestEqualLooksAtTheOrder(t *testing.T) {
	v := asked(t, crowd(10, 10), 0, 1, 32)
	for i := range v.Seen {
		for k := range i {
			w := copyOf(v)
			w.Seen[i], w.Seen[k] = w.Seen[k], w.Seen[i]
			wantEqual(t, "exchanged", v, w, false)
		}
		w := copyOf(v)
		w.Seen = slices.Delete(w.Seen, i, i+1)
		wantEqual(t, "one less", v, w, false)
		w = copyOf(v)
		w.Seen = slices.Insert(w.Seen, i, w.Seen[i])
		wantEqual(t, "one twice", v, w, false)
		w = copyOf(v)
		w.Seen = w.Seen[:i]
		wantEqual(t, "cut", v, w, false)
		w.Seen = nil
		wantEqual(t, "none", v, w, false)
	}
}

// P21.3: like ones in other memory are one; nil and empty lists mean the same; spare room is not looked at.
func TestEqualOfLikeOnes(t *testing.T) {
	wantEqual(t, "nil and empty", api.View{Tick: 2}, api.View{Tick: 2, Seen: []api.Seen{}}, true)
	wantEqual(t, "nil and room", api.View{Tick: 2}, api.View{Tick: 2, Seen: []api.Seen{{Kind: 1}}[:0]}, true)
	for _, v := range some() {
		w := copyOf(v)
		w.Own.Name = strings.Clone(w.Own.Name)
		w.Seen = append(w.Seen, api.Seen{Kind: 1, Id: 99})[:len(v.Seen)]
		wantEqual(t, "other memory", v, w, true)
		wantEqual(t, "itself", v, v, true)
	}
}

// P21.3: Equal tells no change, and makes none.
func TestEqualChangesNothing(t *testing.T) {
	for i := range some() {
		v, w := some()[i], some()[i]
		view.Equal(v, w)
		view.Equal(v, api.View{})
		if !same(v, some()[i]) || !same(w, some()[i]) {
			t.Errorf("view %d has changed", i)
		}
	}
}
