package demo

import (
	"errors"

	"joust/api"
	"joust/board"
	"joust/pack"
	"joust/sha"
)

const (
	magic    = "JD01"
	sumLen   = 32
	countLen = 4 // of how many labels there are, and how long a name is
	fire     = 1
	boost    = 2
)

// What is wrong with a text of another form. To whoever reads it, all of it is ErrDemo.
var (
	errCut  = errors.New("the text ends too early")
	errForm = errors.New("the text is of another form")
	errSum  = errors.New("the text has another sum")
)

// write writes labels on a board. All their numbers fit, for the Rulebook has taken them.
func write(b *board.Board, l []api.Label) string {
	w := pack.NewWriter()
	w.Bytes(head(b))
	w.Number(uint64(len(l)), countLen)
	for _, x := range l {
		lay(w, x)
	}
	body, _ := w.Done()
	return body + sumOf(body)
}

// read takes the labels out of a text for a board. Whether the Rulebook takes them is not asked.
func read(b *board.Board, s string) ([]api.Label, error) {
	r := pack.NewReader(s)
	l, err := takeAll(r, head(b))
	sum := r.Bytes(sumLen)
	switch e := r.Done(); {
	case errors.Is(e, api.ErrShort):
		// No sum is there to be looked at; and what was taken where the bytes had ended may look like another form.
		return nil, errCut
	case err != nil:
		return nil, err
	case e != api.OK:
		return nil, errForm
	case sum != sumOf(s[:len(s)-sumLen]):
		return nil, errSum
	}
	return l, nil
}

// head is what stands ahead of all labels on a board.
func head(b *board.Board) string { return magic + sumOf(b.Print()) }

func lay(w *pack.Writer, x api.Label) {
	w.Number(uint64(x.Kind), 1)
	switch x.Kind {
	case api.LbJoin:
		w.Number(uint64(x.Player), 1)
		w.Number(uint64(len(x.Name)), countLen)
		w.Bytes(x.Name)
	case api.LbLeave:
		w.Number(uint64(x.Player), 1)
	case api.LbTick:
		w.Number(uint64(len(x.Intents)), 1)
		for _, i := range x.Intents {
			layIntent(w, i)
		}
	}
}

func layIntent(w *pack.Writer, i api.Intent) {
	w.Number(uint64(i.Player), 1)
	w.Signed(int64(i.Throttle), 1)
	w.Signed(int64(i.Turn), 1)
	flags := uint64(0)
	if i.Fire {
		flags += fire
	}
	if i.Boost {
		flags += boost
	}
	w.Number(flags, 1)
}

// takeAll takes all that stands ahead of the sum. How many labels there are may be any number: where no bytes are left, what is taken is of no kind, and so it ends.
func takeAll(r *pack.Reader, ahead string) ([]api.Label, error) {
	if r.Bytes(len(ahead)) != ahead {
		return nil, errForm
	}
	var l []api.Label
	for n := r.Number(countLen); n > 0; n-- {
		x, err := take(r)
		if err != nil {
			return nil, err
		}
		l = append(l, x)
	}
	return l, nil
}

func take(r *pack.Reader) (api.Label, error) {
	x := api.Label{Kind: int(r.Number(1))}
	switch x.Kind {
	case api.LbJoin:
		x.Player = int(r.Number(1))
		x.Name = r.Bytes(int(r.Number(countLen)))
	case api.LbLeave:
		x.Player = int(r.Number(1))
	case api.LbTick:
		for n := r.Number(1); n > 0; n-- {
			i, err := takeIntent(r)
			if err != nil {
				return api.Label{}, err
			}
			x.Intents = append(x.Intents, i)
		}
	default:
		return api.Label{}, errForm
	}
	return x, nil
}

func takeIntent(r *pack.Reader) (api.Intent, error) {
	i := api.Intent{Player: int(r.Number(1)), Throttle: int(r.Signed(1)), Turn: int(r.Signed(1))}
	flags := r.Number(1)
	if flags > fire+boost {
		return api.Intent{}, errForm
	}
	i.Fire, i.Boost = flags&fire != 0, flags&boost != 0
	return i, nil
}

func sumOf(s string) string {
	sum := sha.Of([]byte(s))
	return string(sum[:])
}
