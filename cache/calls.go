package cache

import (
	"cmp"
	"slices"

	"linhay/api"
	"linhay/coin"
	"linhay/expiry"
	"linhay/lhd"
	"linhay/store"
	"linhay/table"
	"linhay/tags"
	"linhay/thing"
	"linhay/word"
)

// failed is the reply to a call that could not be done.
func failed(e api.Errno) api.Reply { return api.Reply{Err: e} }

// late tells whether the time would be none, if so much more went by.
func (c *core) late(by int) bool {
	return by < 0 || by > api.MaxTime-c.clock.Now
}

// get is the call CGet.
func (c *core) get(x api.Call) api.Reply {
	if !thing.Key(x.Key) {
		return failed(api.ErrKey)
	}
	id, found := table.Get(c.places, x.Key)
	if !found {
		c.stats.Misses = one(c.stats.Misses)
		return api.Reply{}
	}
	o := c.objects[id]
	data, _ := store.Get(c.store, o.slots, o.size)
	c.stats.Hits = one(c.stats.Hits)
	c.stats.HitBytes = word.Add(c.stats.HitBytes, word.Of(o.size))
	if c.config.Kind == api.LHD {
		c.rank = lhd.Hit(c.rank, c.age(id))
	}
	freq := one(o.freq)
	c.use(id, freq, c.seq, c.pri(o.cost, o.size, freq))
	c.count(x.Key, o.size)
	return api.Reply{Has: true, Data: data}
}

// wrong is the error of a call CPut, and its tags, if there is none.
func (c *core) wrong(x api.Call) ([]string, api.Errno) {
	told, e := thing.Tags(x.Tags)
	switch {
	case !thing.Key(x.Key):
		return nil, api.ErrKey
	case e != api.OK:
		return nil, e
	case len(x.Data) < 1 || len(x.Data) > api.MaxSize:
		return nil, api.ErrSize
	case x.Cost < 0 || x.Cost > api.MaxCost:
		return nil, api.ErrCall
	case c.late(x.N):
		return nil, api.ErrTime
	case len(x.Data) > c.config.Cap:
		return nil, api.ErrRoom
	}
	return told, api.OK
}

// admitted tells whether an object comes in that has no entry.
func (c *core) admitted(size int) bool {
	in, behind := coin.Admit(c.config, c.tape, size)
	c.tape = behind
	return in
}

// put is the call CPut.
func (c *core) put(x api.Call) api.Reply {
	told, e := c.wrong(x)
	if e != api.OK {
		return failed(e)
	}
	size, freq := len(x.Data), uint64(1)
	c.count(x.Key, size)
	id, found := table.Get(c.places, x.Key)
	if found {
		freq = one(c.objects[id].freq)
		c.remove(id)
	} else if !c.admitted(size) {
		c.stats.Refused = one(c.stats.Refused)
		return api.Reply{}
	}
	outs := c.makeRoom(func() bool { return c.many == api.MaxObjects || c.bytes+size > c.config.Cap })
	until := 0
	if x.N > 0 {
		until = c.clock.Now + x.N
	}
	c.add(api.Entry{
		Key: x.Key, Data: x.Data, Cost: x.Cost, Freq: freq, Used: c.seq,
		Pri: c.pri(x.Cost, size, freq), Until: until, Tags: told,
	})
	c.stats.Puts = one(c.stats.Puts)
	return api.Reply{Has: true, Outs: outs}
}

// delete is the call CDelete.
func (c *core) delete(x api.Call) api.Reply {
	if !thing.Key(x.Key) {
		return failed(api.ErrKey)
	}
	id, found := table.Get(c.places, x.Key)
	if !found {
		return failed(api.ErrNone)
	}
	c.remove(id)
	return api.Reply{Has: true}
}

// gone removes entries, and tells their keys, in order.
func (c *core) gone(ids []int) []string {
	var keys []string
	for _, id := range ids {
		keys = append(keys, c.objects[id].key)
		c.remove(id)
	}
	return keys
}

// purge is the call CPurge.
func (c *core) purge(x api.Call) api.Reply {
	if _, e := thing.Tags([]string{x.Key}); e != api.OK {
		return failed(e)
	}
	keys := c.gone(tags.Of(c.rows, x.Key))
	slices.Sort(keys)
	return api.Reply{Outs: keys}
}

// tick is the call CTick.
func (c *core) tick(x api.Call) api.Reply {
	clock, due, e := expiry.Tick(c.clock, x.N)
	if e != api.OK {
		return failed(e)
	}
	// What is due at one time is told by numbers, but has to be by keys.
	slices.SortFunc(due, func(a, b int) int {
		return cmp.Or(cmp.Compare(c.until(a), c.until(b)), cmp.Compare(c.objects[a].key, c.objects[b].key))
	})
	c.clock = clock
	keys := c.gone(due)
	c.stats.Expired = word.Add(c.stats.Expired, word.Of(len(keys)))
	return api.Reply{Outs: keys}
}

// resize is the call CResize.
func (c *core) resize(x api.Call) api.Reply {
	if x.N < 1 || x.N > api.MaxCap {
		return failed(api.ErrConfig)
	}
	c.config.Cap = x.N
	return api.Reply{Outs: c.makeRoom(func() bool { return c.bytes > c.config.Cap })}
}

// tell is the call CStats.
func (c *core) tell(x api.Call) api.Reply {
	return api.Reply{Stats: c.stats}
}
