package snap

import (
	"strings"

	"linhay/api"
	"linhay/pack"
	"linhay/word"
)

// writer writes one thing behind the other.
type writer struct{ bytes string }

// numbers writes numbers.
func (w *writer) numbers(l ...uint64) {
	w.bytes = pack.Put(w.bytes, l...)
}

// wholes writes numbers that are not below 0.
func (w *writer) wholes(l ...int) {
	for _, n := range l {
		w.numbers(word.Of(n))
	}
}

// text writes a text.
func (w *writer) text(t string) {
	w.bytes = pack.Text(w.bytes, t)
}

// head is the text of a state up to the members of its window.
func head(s api.State) string {
	var w writer
	c := s.Config
	w.wholes(c.Cap, c.Kind, c.Admit, c.Limit, c.Window, len(c.Grid))
	w.wholes(c.Grid...)
	w.text(s.Tape.Bytes)
	w.wholes(s.Tape.At, s.Now, s.Seq)
	w.numbers(s.Level)
	w.numbers(s.Rank.Hits[:]...)
	w.numbers(s.Rank.Outs[:]...)
	w.wholes(len(s.Window))
	return w.bytes
}

// member is the text of a member of a window.
func member(x api.Seen) string {
	var w writer
	w.text(x.Key)
	w.wholes(x.Size, x.N)
	return w.bytes
}

// entry is the text of an entry.
func entry(e api.Entry) string {
	var w writer
	w.text(e.Key)
	w.text(e.Data)
	w.wholes(e.Cost)
	w.numbers(e.Freq)
	w.wholes(e.Used)
	w.numbers(e.Pri)
	w.wholes(e.Until)
	return pack.Texts(w.bytes, e.Tags)
}

// text is the text of a state that may be.
func text(s api.State) string {
	// Each part has a writer of its own: a long text is not to be laid anew for each number.
	parts := []string{head(s)}
	for _, x := range s.Window {
		parts = append(parts, member(x))
	}
	var w writer
	w.wholes(s.Asked, len(s.Entries))
	parts = append(parts, w.bytes)
	for _, e := range s.Entries {
		parts = append(parts, entry(e))
	}
	t := s.Stats
	stats := pack.Put("", t.Hits, t.Misses, t.HitBytes, t.Puts, t.Refused, t.Outs, t.Expired)
	return strings.Join(append(parts, stats), "")
}

// reader reads what a writer wrote; its bytes are those that are left.
type reader struct {
	writer
	failed bool
}

// left keeps what is left, and whether all was read so far.
func (r *reader) left(rest string, e api.Errno) {
	r.bytes = rest
	r.failed = r.failed || e != api.OK
}

// takeNumber reads a number.
func (r *reader) takeNumber() uint64 {
	n, rest, e := pack.Take(r.bytes)
	r.left(rest, e)
	return n
}

// takeWhole reads a number, held at the greatest int.
func (r *reader) takeWhole() int {
	return word.Int(r.takeNumber())
}

// takeText reads a text.
func (r *reader) takeText() string {
	t, rest, e := pack.TakeText(r.bytes)
	r.left(rest, e)
	return t
}

// takeTexts reads a list of texts.
func (r *reader) takeTexts() []string {
	l, rest, e := pack.TakeTexts(r.bytes)
	r.left(rest, e)
	return l
}

// takeList reads how many there are, and each of them.
func (r *reader) takeList(each func()) {
	for n := r.takeNumber(); n > 0 && !r.failed; n-- {
		each()
	}
}

// fill reads one behind the other.
func fill[T any](read func() T, to ...*T) {
	for _, p := range to {
		*p = read()
	}
}

// takeEntry reads an entry.
func (r *reader) takeEntry() api.Entry {
	var e api.Entry
	fill(r.takeText, &e.Key, &e.Data)
	fill(r.takeWhole, &e.Cost)
	fill(r.takeNumber, &e.Freq)
	fill(r.takeWhole, &e.Used)
	fill(r.takeNumber, &e.Pri)
	fill(r.takeWhole, &e.Until)
	e.Tags = r.takeTexts()
	return e
}

// takeState reads a state.
func (r *reader) takeState() api.State {
	var s api.State
	c, t := &s.Config, &s.Stats
	fill(r.takeWhole, &c.Cap, &c.Kind, &c.Admit, &c.Limit, &c.Window)
	r.takeList(func() { c.Grid = append(c.Grid, r.takeWhole()) })
	fill(r.takeText, &s.Tape.Bytes)
	fill(r.takeWhole, &s.Tape.At, &s.Now, &s.Seq)
	fill(r.takeNumber, &s.Level)
	for age := range api.Ages {
		fill(r.takeNumber, &s.Rank.Hits[age])
	}
	for age := range api.Ages {
		fill(r.takeNumber, &s.Rank.Outs[age])
	}
	r.takeList(func() {
		var x api.Seen
		fill(r.takeText, &x.Key)
		fill(r.takeWhole, &x.Size, &x.N)
		s.Window = append(s.Window, x)
	})
	fill(r.takeWhole, &s.Asked)
	r.takeList(func() { s.Entries = append(s.Entries, r.takeEntry()) })
	fill(r.takeNumber, &t.Hits, &t.Misses, &t.HitBytes, &t.Puts, &t.Refused, &t.Outs, &t.Expired)
	return s
}
