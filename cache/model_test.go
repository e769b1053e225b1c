package cache_test

import (
	"cmp"
	"math/rand"
	"slices"
	"strings"

	"linhay/api"
	"linhay/coin"
	"linhay/gds"
	"linhay/lhd"
	"linhay/tape"
	"linhay/thing"
	"linhay/tune"
	"linhay/word"
)

// model is a state, on which calls are done as the chapter says them.
type model struct{ api.State }

func copied(s api.State) api.State {
	s.Config.Grid = slices.Clone(s.Config.Grid)
	s.Window = slices.Clone(s.Window)
	s.Entries = slices.Clone(s.Entries)
	for i := range s.Entries {
		s.Entries[i].Tags = slices.Clone(s.Entries[i].Tags)
	}
	return s
}

func equalEntries(a, b api.Entry) bool {
	return a.Key == b.Key && a.Data == b.Data && a.Cost == b.Cost && a.Freq == b.Freq && a.Used == b.Used &&
		a.Pri == b.Pri && a.Until == b.Until && slices.Equal(a.Tags, b.Tags)
}

func equalStates(a, b api.State) bool {
	x, y := a.Config, b.Config
	return x.Cap == y.Cap && x.Kind == y.Kind && x.Admit == y.Admit && x.Limit == y.Limit && x.Window == y.Window &&
		slices.Equal(x.Grid, y.Grid) && a.Tape == b.Tape && a.Now == b.Now && a.Seq == b.Seq && a.Level == b.Level &&
		a.Rank == b.Rank && slices.Equal(a.Window, b.Window) && a.Asked == b.Asked &&
		slices.EqualFunc(a.Entries, b.Entries, equalEntries) && a.Stats == b.Stats
}

func equalReplies(a, b api.Reply) bool {
	return a.Err == b.Err && a.Has == b.Has && a.Data == b.Data && slices.Equal(a.Outs, b.Outs) && a.Stats == b.Stats
}

func (m *model) find(key string) int {
	return slices.IndexFunc(m.Entries, func(e api.Entry) bool { return e.Key == key })
}

func (m *model) bytes() int {
	n := 0
	for _, e := range m.Entries {
		n += len(e.Data)
	}
	return n
}

func (m *model) weigh(e *api.Entry) {
	if m.Config.Kind == api.GDS || m.Config.Kind == api.GDSF {
		e.Pri = word.Add(m.Level, gds.Weight(m.Config.Kind, uint64(e.Cost), uint64(len(e.Data)), e.Freq))
	}
}

func (m *model) age(e api.Entry) int { return lhd.Age(uint64(m.Seq - e.Used)) }

// first is the place of the entry that goes first.
func (m *model) first() int {
	if m.Config.Kind == api.LHD {
		var ages, some []int
		var sizes []uint64
		for _, e := range m.Entries {
			ages, sizes = append(ages, m.age(e)), append(sizes, uint64(len(e.Data)))
		}
		some, m.Tape = tape.Some(m.Tape, len(m.Entries), api.Sample)
		at, _ := lhd.Victim(m.Rank, ages, sizes, some)
		return at
	}
	at := 0
	for i, e := range m.Entries {
		if x := m.Entries[at]; e.Pri < x.Pri || e.Pri == x.Pri && e.Used < x.Used {
			at = i
		}
	}
	return at
}

func (m *model) letGo() string {
	at := m.first()
	e := m.Entries[at]
	m.Entries = slices.Delete(m.Entries, at, at+1)
	m.Stats.Outs = word.Add(m.Stats.Outs, 1)
	switch m.Config.Kind {
	case api.GDS, api.GDSF:
		m.Level = e.Pri
		if m.Level >= api.High {
			for i := range m.Entries {
				m.Entries[i].Pri -= m.Level
			}
			m.Level = 0
		}
	case api.LHD:
		m.Rank = lhd.Out(m.Rank, m.age(e))
		if m.Stats.Outs%64 == 0 {
			m.Rank = lhd.Fade(m.Rank)
		}
	}
	return e.Key
}

func (m *model) count(key string, size int) {
	if m.Config.Admit != api.Coin {
		return
	}
	m.Window, m.Asked = tune.Note(m.Window, key, size), m.Asked+1
	if m.Asked == m.Config.Window {
		m.Config.Limit, _ = tune.Best(m.Window, uint64(m.Config.Cap), m.Config.Grid)
		m.Window, m.Asked = nil, 0
	}
}

// do does x on a copy, and tells that, and the reply.
func do(s api.State, x api.Call) (api.State, api.Reply) {
	m := &model{copied(s)}
	if x.Kind < 1 || x.Kind > 7 || m.Seq == 1<<40 {
		return s, api.Reply{Err: api.ErrCall}
	}
	m.Seq++
	var r api.Reply
	switch x.Kind {
	case api.CGet:
		r = m.get(x)
	case api.CPut:
		r = m.put(x)
	case api.CDelete:
		at := m.find(x.Key)
		if !thing.Key(x.Key) {
			r.Err = api.ErrKey
		} else if at < 0 {
			r.Err = api.ErrNone
		} else {
			m.Entries, r.Has = slices.Delete(m.Entries, at, at+1), true
		}
	case api.CPurge:
		if len(x.Key) < 1 || len(x.Key) > 8 {
			r.Err = api.ErrKey
		} else {
			r.Outs = m.gone(func(e api.Entry) bool { return slices.Contains(e.Tags, x.Key) }, nil)
		}
	case api.CTick:
		if x.N < 0 || x.N > 1<<40-m.Now {
			r.Err = api.ErrTime
		} else {
			m.Now += x.N
			r.Outs = m.gone(func(e api.Entry) bool { return e.Until > 0 && e.Until <= m.Now }, func(a, b api.Entry) int { return cmp.Compare(a.Until, b.Until) })
			m.Stats.Expired = word.Add(m.Stats.Expired, uint64(len(r.Outs)))
		}
	case api.CResize:
		if x.N < 1 || x.N > 1<<16 {
			r.Err = api.ErrConfig
		} else {
			for m.Config.Cap = x.N; m.bytes() > x.N; {
				r.Outs = append(r.Outs, m.letGo())
			}
		}
	case api.CStats:
		r.Stats = m.Stats
	}
	if r.Err != api.OK {
		return s, api.Reply{Err: r.Err}
	}
	return m.State, r
}

// gone are the keys of the entries that go, by what order tells, and by rising keys.
func (m *model) gone(goes func(e api.Entry) bool, order func(a, b api.Entry) int) []string {
	var out []api.Entry
	for _, e := range m.Entries {
		if goes(e) {
			out = append(out, e)
		}
	}
	m.Entries = slices.DeleteFunc(m.Entries, goes)
	if order != nil {
		slices.SortStableFunc(out, order)
	}
	var keys []string
	for _, e := range out {
		keys = append(keys, e.Key)
	}
	return keys
}

func (m *model) get(x api.Call) api.Reply {
	at := m.find(x.Key)
	if !thing.Key(x.Key) {
		return api.Reply{Err: api.ErrKey}
	}
	if at < 0 {
		m.Stats.Misses = word.Add(m.Stats.Misses, 1)
		return api.Reply{}
	}
	e := &m.Entries[at]
	m.Stats.Hits = word.Add(m.Stats.Hits, 1)
	m.Stats.HitBytes = word.Add(m.Stats.HitBytes, uint64(len(e.Data)))
	if m.Config.Kind == api.LHD {
		m.Rank = lhd.Hit(m.Rank, m.age(*e))
	}
	e.Freq, e.Used = word.Add(e.Freq, 1), m.Seq
	m.weigh(e)
	m.count(e.Key, len(e.Data))
	return api.Reply{Has: true, Data: e.Data}
}

func (m *model) put(x api.Call) api.Reply {
	told, bad := thing.Tags(x.Tags)
	for _, c := range []struct {
		wrong bool
		e     api.Errno
	}{
		{!thing.Key(x.Key) || bad != api.OK, api.ErrKey},
		{len(x.Data) < 1 || len(x.Data) > 4096, api.ErrSize},
		{x.Cost < 0 || x.Cost > 1<<20, api.ErrCall},
		{x.N < 0 || x.N > 1<<40-m.Now, api.ErrTime},
		{len(x.Data) > m.Config.Cap, api.ErrRoom},
	} {
		if c.wrong {
			return api.Reply{Err: c.e}
		}
	}
	m.count(x.Key, len(x.Data))
	e := api.Entry{Key: x.Key, Data: x.Data, Cost: x.Cost, Freq: 1, Used: m.Seq, Tags: told}
	if at := m.find(x.Key); at >= 0 {
		e.Freq = word.Add(m.Entries[at].Freq, 1)
		m.Entries = slices.Delete(m.Entries, at, at+1)
	} else {
		var in bool
		if in, m.Tape = coin.Admit(m.Config, m.Tape, len(x.Data)); !in {
			m.Stats.Refused = word.Add(m.Stats.Refused, 1)
			return api.Reply{}
		}
	}
	r := api.Reply{Has: true}
	for len(m.Entries) == 64 || m.bytes()+len(x.Data) > m.Config.Cap {
		r.Outs = append(r.Outs, m.letGo())
	}
	if x.N > 0 {
		e.Until = m.Now + x.N
	}
	m.weigh(&e)
	m.Entries = append(m.Entries, e)
	slices.SortFunc(m.Entries, func(a, b api.Entry) int { return strings.Compare(a.Key, b.Key) })
	m.Stats.Puts = word.Add(m.Stats.Puts, 1)
	return r
}

// text are some bytes.
func text(r *rand.Rand, n int) string {
	b := make([]byte, n)
	r.Read(b)
	return string(b)
}

// call is a call, of which few have an error.
func call(r *rand.Rand, keys, size, most int) api.Call {
	x := api.Call{Kind: []int{1, 1, 1, 1, 2, 2, 2, 2, 2, 3, 4, 5, 5, 6, 7}[r.Intn(15)]}
	x.Key = strings.Repeat(string(rune('a'+r.Intn(26))), 1+r.Intn(1+keys/26))
	if x.Kind == api.CPurge {
		x.Key = string(rune('t' + r.Intn(5)))
	}
	x.Data = text(r, r.Intn(1+size))
	x.Cost = r.Intn(20)
	if x.N = r.Intn(12); x.Kind == api.CPut && r.Intn(2) == 0 {
		x.N = 0
	}
	if x.Kind == api.CResize {
		x.N = 1 + r.Intn(most)
	}
	for range r.Intn(4) {
		x.Tags = append(x.Tags, string(rune('t'+r.Intn(5))))
	}
	if r.Intn(20) == 0 {
		wrong(r, &x)
	}
	return x
}

// wrong makes something of a call so that it may have an error.
func wrong(r *rand.Rand, x *api.Call) {
	switch r.Intn(8) {
	case 0:
		x.Kind = r.Intn(12) - 2
	case 1:
		x.Key = strings.Repeat("k", r.Intn(20))
	case 2:
		x.Data = text(r, r.Intn(5000))
	case 3:
		x.Cost = r.Intn(1<<21) - 1<<19
	case 4:
		x.N = r.Intn(5) - 3
	case 5:
		x.N = 1<<40 + r.Intn(5) - 3
	case 6:
		x.Tags = append(x.Tags, strings.Repeat("t", r.Intn(10)))
	case 7:
		x.Tags = append(x.Tags, "a", "b", "c")
	}
}

// config is a configuration that may be.
func config(r *rand.Rand, kind, admit, most int) api.Config {
	c := api.Config{Cap: most, Kind: kind, Admit: admit}
	switch admit {
	case api.Threshold:
		c.Limit = 1 + r.Intn(most)
	case api.Coin:
		c.Limit, c.Window = 1+r.Intn(most), 1+r.Intn(20)
		for n := 1 + r.Intn(5); len(c.Grid) < 1+r.Intn(8) && n < 1<<16; n += 1 + r.Intn(most) {
			c.Grid = append(c.Grid, n)
		}
	}
	return c
}
