package shell

import (
	"strings"

	"joust/api"
	"joust/book"
	"joust/demo"
	"joust/referee"
)

func (s *Shell) cars(w *words) []string {
	return carLines(s.behind(w).server.State())
}

func (s *Shell) shots(w *words) []string {
	var told []string
	for _, x := range s.behind(w).server.State().Shots {
		told = append(told, shotLine(x))
	}
	return told
}

func (s *Shell) lives(w *words) []string {
	var told []string
	for _, x := range s.behind(w).server.Lives() {
		told = append(told, liveLine(x))
	}
	return told
}

func (s *Shell) counts(w *words) []string {
	return one(countsLine(s.behind(w).server.Counts()))
}

func (s *Shell) ledger(w *words) []string {
	return one(ledgerLine(s.behind(w).server.Ledger()))
}

func (s *Shell) view(w *words) []string {
	called := w.word()
	m := s.behind(w)
	v, ok := m.find(called).View()
	if !ok {
		panic(api.ErrState)
	}
	told := []string{tickLine(v.Tick), carLine(v.Own)}
	for _, x := range v.Seen {
		told = append(told, seenLine(x))
	}
	return told
}

func (s *Shell) judge(w *words) []string {
	m := s.behind(w)
	f, found := referee.Judge(m.config, m.key, m.server.Ledger())
	if found {
		return one(findingLine(f))
	}
	return one("clean")
}

func (s *Shell) demo(w *words) []string {
	n := w.number()
	m := s.behind(w)
	if n < 0 {
		panic(api.ErrSeek)
	}
	// A server's ledger has labels, and the Rulebook takes them: it has done so already.
	labels, _ := book.Labels(m.server.Ledger())
	d, _ := demo.Record(m.walls(), labels)
	arena, e := d.Seek(uint64(n))
	allow(e)
	return append(one(tickLine(arena.Tick)), carLines(arena)...)
}

func (s *Shell) board(w *words) []string {
	return strings.Split(strings.TrimSuffix(s.behind(w).walls().Print(), "\n"), "\n")
}
