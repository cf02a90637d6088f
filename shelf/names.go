package shelf

// move is something that was done to names: a file has the name to, and has the name from no more.
// An empty name, which no file can have, tells that there is none: a new file has no from, a deleted one no to (and no f).
type move struct {
	from string
	to   string
	f    *file
}

// on does a move to names, and answers them: where there were none yet, they are a new map.
func (m move) on(names map[string]*file) map[string]*file {
	if names == nil {
		names = map[string]*file{}
	}
	delete(names, m.from)
	if m.f != nil {
		names[m.to] = m.f
	}
	return names
}

// do does a move to names as they are, and keeps it, for a fall may undo it.
func (s *Shelf) do(m move) {
	s.names = m.on(s.names)
	s.moves = append(s.moves, m)
}

// lose: the file of a name, if there is one, is about to have none. It still takes room, for a fall may bring it back.
func (s *Shelf) lose(name string) {
	if f := s.names[name]; f != nil {
		s.named -= len(f.p)
		s.gone += len(f.p)
	}
}

// settle: the first n moves are safe, the others are forgotten, and so is each file that has no name by that.
func (s *Shelf) settle(n int) {
	for _, m := range s.moves[:n] {
		s.safe = m.on(s.safe)
	}
	s.moves = nil
	s.gone = 0
}
