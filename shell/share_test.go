package shell_test

import (
	"slices"
	"strings"
	"testing"
	"unsafe"

	"joust/shell"
)

// This file is R11: what is told is new memory, what is handed in stays as it was and is not kept.

// room is a stretch of memory, from its first byte to the one behind its last.
type room struct{ from, to uintptr }

func listRoom(list []string) room {
	from := uintptr(unsafe.Pointer(unsafe.SliceData(list)))
	return room{from, from + uintptr(cap(list))*unsafe.Sizeof("")}
}

func textRoom(s string) room {
	from := uintptr(unsafe.Pointer(unsafe.StringData(s)))
	return room{from, from + uintptr(len(s))}
}

// rooms are those of a list that is told, and of its lines.
func roomsOf(told []string) []room {
	rooms := []room{listRoom(told)}
	for _, x := range told {
		rooms = append(rooms, textRoom(x))
	}
	return rooms
}

// wantOwn asks that no two stretches of memory have a byte in common.
func wantOwn(t *testing.T, what string, rooms []room) {
	t.Helper()
	slices.SortFunc(rooms, func(x, y room) int { return int(x.from) - int(y.from) })
	end := uintptr(0)
	for _, x := range rooms {
		if x.from == x.to {
			continue // nothing can be read or written there
		}
		if x.from < end {
			t.Fatalf("%s: memory is shared", what)
		}
		end = x.to
	}
}

// lend gives a text in memory that is written over by what comes beside it.
func lend(s string) (string, []byte) {
	if s == "" {
		return "", nil
	}
	b := []byte(s)
	return unsafe.String(&b[0], len(b)), b
}

func spoil(b []byte) {
	for i := range b {
		b[i] = '!'
	}
}

// R11: lines are neither changed nor kept: with each of them written over behind its Do, a shell tells what it tells.
func TestShareLines(t *testing.T) {
	d := dice(4123105625617)
	for range rounds(40) {
		s, alone := shell.New(), shell.New()
		for _, line := range d.match(120) {
			given, memory := lend(line)
			told := s.Do(given)
			if string(memory) != line {
				t.Fatalf("%q is changed", line)
			}
			spoil(memory)
			if want := alone.Do(line); !slices.Equal(told, want) {
				t.Fatalf("%q tells\n%q, want\n%q", line, told, want)
			}
		}
	}
}

// R11: what is told shares no memory with a line, with another answer, nor one line of it with another; it may be written over, its spare room too.
func TestShareTold(t *testing.T) {
	d := dice(4242640687119)
	for range rounds(20) {
		s, alone := shell.New(), shell.New()
		var rooms []room
		var lists [][]string
		var texts []string // held here, so that their memory is not used again
		for _, line := range d.match(120) {
			given := strings.Clone(line)
			told := s.Do(given)
			rooms = append(append(rooms, textRoom(given)), roomsOf(told)...)
			lists, texts = append(lists, told), append(append(texts, given), told...)
			if want := alone.Do(line); !slices.Equal(told, want) {
				t.Fatalf("%q tells\n%q, want\n%q", line, told, want)
			}
			told = told[:cap(told)]
			for i := range told {
				told[i] = "written over"
			}
		}
		wantOwn(t, "told", rooms)
		if len(lists) == 0 || len(texts) == 0 {
			t.Fatal("nothing is told")
		}
	}
}

// Each kind of line twice: lists and texts of the one answer are not the other's.
func TestShareTwice(t *testing.T) {
	s := opened(t, lane)
	wantTold(t, s, said{"join ann a:1", "ann session 1 player 0"}, said{"join bob b:1", "bob session 2 player 1"}, said{"drive ann 1 1 fire", "ok"}, said{"tick", "tick 1"})
	var rooms []room
	var lists [][]string
	for range 3 {
		for _, line := range []string{"cars", "shots", "lives", "counts", "ledger", "view ann", "judge", "demo 1", "demo 2", "board", "frob", "tick", "drive bob 1 1", "drive bob 1 1", "again bob b:1", "raw x", "join zoe x", "bye zoe"} {
			told := s.Do(line)
			if len(told) == 0 {
				t.Fatalf("%q tells nothing", line)
			}
			lists = append(lists, told)
			rooms = append(rooms, roomsOf(told)...)
		}
	}
	for range 3 {
		told := s.Do("open")
		lists = append(lists, told)
		rooms = append(rooms, roomsOf(told)...)
	}
	wantOwn(t, "told", rooms)
	if len(lists) == 0 {
		t.Fatal("nothing is told")
	}
}

// R11: the text of Run is neither changed nor kept, and what it tells is new.
func TestShareRun(t *testing.T) {
	d := dice(4358898943540)
	for range rounds(40) {
		text := strings.Join(d.match(60), "\n")
		given, memory := lend(text)
		told := shell.Run(given)
		if string(memory) != text {
			t.Fatalf("%q is changed", text)
		}
		want := strings.Clone(told)
		again := shell.Run(text)
		wantOwn(t, "Run", []room{textRoom(given), textRoom(told), textRoom(again)})
		spoil(memory)
		if told != want || again != want {
			t.Fatalf("behind memory that is written over: %q, want %q", told, want)
		}
	}
}
