package book

import (
	"joust/api"
	"joust/pack"
	"joust/sha"
)

const (
	magic    = "JB01"
	countLen = 4
	longLen  = 2 // of the length ahead of a text that may have more than 255 bytes
	sumLen   = 32
)

// lay lays an entry. A number below 0 is beyond all that its place holds, taken without its sign.
func lay(w *pack.Writer, x api.Entry) {
	w.Number(uint64(x.Kind), 1)
	w.Number(x.Tick, 8)
	w.Number(x.Session, 8)
	w.Number(uint64(x.Player), 1)
	w.Text(x.Name)
	layLong(w, x.From)
	w.Number(x.Seq, 8)
	layLong(w, x.Data)
}

func layLong(w *pack.Writer, s string) {
	w.Number(uint64(len(s)), longLen)
	w.Bytes(s)
}

// takeAll takes entries and how many there are ahead of them. That number may be any: whoever finds no bytes any more must stop.
func takeAll(r *pack.Reader) ([]api.Entry, api.Errno) {
	var l []api.Entry
	for n := r.Number(countLen); n > 0; n-- {
		x := take(r)
		if r.Done() == api.ErrShort {
			return nil, api.ErrShort
		}
		l = append(l, x)
	}
	if e := r.Done(); e != api.OK {
		return nil, e
	}
	return l, api.OK
}

// take takes an entry; the reader keeps the error, if the bytes end within it.
func take(r *pack.Reader) api.Entry {
	var x api.Entry
	x.Kind = int(r.Number(1))
	x.Tick = r.Number(8)
	x.Session = r.Number(8)
	x.Player = int(r.Number(1))
	x.Name = r.Text()
	x.From = takeLong(r)
	x.Seq = r.Number(8)
	x.Data = takeLong(r)
	return x
}

func takeLong(r *pack.Reader) string { return r.Bytes(int(r.Number(longLen))) }

func sumOf(s string) string {
	sum := sha.Of([]byte(s))
	return string(sum[:])
}
