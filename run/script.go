package run

import (
	"linhay/api"
	"linhay/pack"
	"linhay/word"
)

// writer writes one thing behind the other.
type writer struct{ bytes string }

// numbers writes numbers.
func (w *writer) numbers(l ...uint64) {
	w.bytes = pack.Put(w.bytes, l...)
}

// wholes writes numbers that are not below 0.
func (w *writer) wholes(l ...int) {
	for _, n := range l {
		w.numbers(word.Of(n))
	}
}

// text writes a text.
func (w *writer) text(t string) {
	w.bytes = pack.Text(w.bytes, t)
}

// texts writes a list of texts.
func (w *writer) texts(l []string) {
	w.bytes = pack.Texts(w.bytes, l)
}

// head are the bytes of a configuration, and a tape.
func head(c api.Config, tape string) string {
	var w writer
	w.wholes(c.Cap, c.Kind, c.Admit, c.Limit, c.Window, len(c.Grid))
	w.wholes(c.Grid...)
	w.text(tape)
	return w.bytes
}

// call are the bytes of a call that may be.
func call(x api.Call) string {
	var w writer
	w.wholes(x.Kind)
	switch x.Kind {
	case api.CGet, api.CDelete, api.CPurge:
		w.text(x.Key)
	case api.CPut:
		w.text(x.Key)
		w.text(x.Data)
		w.wholes(x.Cost, x.N)
		w.texts(x.Tags)
	case api.CTick, api.CResize:
		w.wholes(x.N)
	}
	return w.bytes
}

// reader reads what a writer wrote; its bytes are those that are left.
type reader struct {
	writer
	failed bool
}

// left keeps what is left, and whether all was read so far.
func (r *reader) left(rest string, e api.Errno) {
	r.bytes = rest
	r.failed = r.failed || e != api.OK
}

// takeWhole reads a number, held at the greatest int.
func (r *reader) takeWhole() int {
	n, rest, e := pack.Take(r.bytes)
	r.left(rest, e)
	return word.Int(n)
}

// takeText reads a text.
func (r *reader) takeText() string {
	t, rest, e := pack.TakeText(r.bytes)
	r.left(rest, e)
	return t
}

// takeTexts reads a list of texts.
func (r *reader) takeTexts() []string {
	l, rest, e := pack.TakeTexts(r.bytes)
	r.left(rest, e)
	return l
}

// takeHead reads a configuration, and a tape.
func (r *reader) takeHead() (api.Config, string) {
	var c api.Config
	for _, n := range []*int{&c.Cap, &c.Kind, &c.Admit, &c.Limit, &c.Window} {
		*n = r.takeWhole()
	}
	for n := r.takeWhole(); n > 0 && !r.failed; n-- {
		c.Grid = append(c.Grid, r.takeWhole())
	}
	return c, r.takeText()
}

// takeCall reads a call.
func (r *reader) takeCall() api.Call {
	x := api.Call{Kind: r.takeWhole()}
	switch x.Kind {
	case api.CGet, api.CDelete, api.CPurge:
		x.Key = r.takeText()
	case api.CPut:
		x.Key = r.takeText()
		x.Data = r.takeText()
		x.Cost = r.takeWhole()
		x.N = r.takeWhole()
		x.Tags = r.takeTexts()
	case api.CTick, api.CResize:
		x.N = r.takeWhole()
	case api.CStats:
	default:
		r.failed = true
	}
	return x
}
