package shelf

// file is some bytes, and how many of them, from the first one on, are safe. It is the same one under any name.
type file struct {
	p    []byte
	safe int
}

// keep: the first n bytes stay, and are safe.
// What is appended later must not be written over what was cut off, so there is no place for it behind them.
func (f *file) keep(n int) {
	f.p = f.p[:n:n]
	f.safe = n
}
