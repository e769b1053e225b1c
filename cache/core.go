package cache

import (
	"cmp"
	"slices"

	"linhay/api"
	"linhay/expiry"
	"linhay/gds"
	"linhay/heap"
	"linhay/lhd"
	"linhay/list"
	"linhay/store"
	"linhay/table"
	"linhay/tags"
	"linhay/tape"
	"linhay/tune"
	"linhay/word"
)

// object is what the layers below do not keep of an entry.
type object struct {
	key        string
	slots      []api.Slot
	size, cost int
	freq       uint64
	used       int
}

// core is what a cache keeps: each entry has a number, under which the layers below know it.
type core struct {
	config      api.Config
	tape        api.Tape
	clock       api.Clock
	seq         int
	level       uint64
	rank        api.Rank
	window      []api.Seen
	asked       int
	stats       api.Stats
	objects     [api.MaxObjects]object
	many, bytes int
	places      []api.Place
	store       api.Store
	order       api.List
	ranks       []api.Item
	rows        []api.Row
}

// ranked tells whether entries of that kind of cache have ranks.
func ranked(kind int) bool { return kind == api.GDS || kind == api.GDSF }

// one counts one more.
func one(n uint64) uint64 { return word.Add(n, 1) }

// byKey are the numbers of all entries, by rising keys.
func (c *core) byKey() []int {
	var ids []int
	for id, in := range c.order.In {
		if in {
			ids = append(ids, id)
		}
	}
	slices.SortFunc(ids, func(a, b int) int { return cmp.Compare(c.objects[a].key, c.objects[b].key) })
	return ids
}

// until is when the entry of a number is due, 0 if never.
func (c *core) until(id int) int {
	at, _ := expiry.When(c.clock, id)
	return at
}

// entry is the entry of a number.
func (c *core) entry(id int) api.Entry {
	o := c.objects[id]
	data, _ := store.Get(c.store, o.slots, o.size)
	x, _ := heap.Find(c.ranks, id)
	return api.Entry{
		Key: o.key, Data: data, Cost: o.cost, Freq: o.freq, Used: o.used,
		Pri: x.Pri, Until: c.until(id), Tags: tags.Tags(c.rows, id),
	}
}

// wider is s with more segments, as many as there may be at most.
func wider(s api.Store) api.Store {
	n := min(api.MaxSegs, 2*len(s.Segs)+api.Classes)
	more, _ := store.New(n - len(s.Segs))
	return api.Store{Segs: slices.Concat(s.Segs, more.Segs), Bytes: s.Bytes + more.Bytes}
}

// lay lays bytes into slots.
func (c *core) lay(data string) []api.Slot {
	s, slots, e := store.Put(c.store, data)
	// A segment is begun only if all of its class are full, and no capacity, with the last slots of all objects, fills MaxSegs: there is room at the end.
	for e == api.ErrRoom && len(s.Segs) < api.MaxSegs {
		s, slots, e = store.Put(wider(s), data)
	}
	c.store = s
	return slots
}

// add keeps an entry whose key has none, and for which there is room; it is the one that was used last.
func (c *core) add(e api.Entry) {
	id := slices.Index(c.order.In[:], false)
	c.objects[id] = object{key: e.Key, slots: c.lay(e.Data), size: len(e.Data), cost: e.Cost}
	c.many++
	c.bytes += len(e.Data)
	c.places, _ = table.Put(c.places, e.Key, id)
	c.rows, _ = tags.Add(c.rows, id, e.Tags)
	if e.Until > 0 {
		c.clock, _ = expiry.Set(c.clock, id, e.Until-c.clock.Now)
	}
	c.use(id, e.Freq, e.Used, e.Pri)
}

// use tells of an entry how often, and when, it was used, and how it is ranked.
func (c *core) use(id int, freq uint64, used int, pri uint64) {
	c.objects[id].freq, c.objects[id].used = freq, used
	c.order, _ = list.Touch(c.order, id)
	if ranked(c.config.Kind) {
		c.ranks, _ = heap.Set(c.ranks, api.Item{ID: id, Pri: pri, Seq: uint64(used)})
	}
}

// remove keeps an entry no longer.
func (c *core) remove(id int) {
	o := c.objects[id]
	c.objects[id] = object{}
	c.many--
	c.bytes -= o.size
	c.store, _ = store.Drop(c.store, o.slots)
	c.places, _ = table.Del(c.places, o.key)
	c.rows = tags.Drop(c.rows, id)
	c.clock, _ = expiry.Drop(c.clock, id)
	c.order, _ = list.Drop(c.order, id)
	c.ranks, _ = heap.Drop(c.ranks, id)
}

// pri is how an object is ranked that is used now; 0 of kinds that have no weights.
func (c *core) pri(cost, size int, freq uint64) uint64 {
	return word.Add(c.level, gds.Weight(c.config.Kind, word.Of(cost), word.Of(size), freq))
}

// age is the age of an entry.
func (c *core) age(id int) int {
	return lhd.Age(word.Of(c.seq - c.objects[id].used))
}

// sampled is the one that goes first of some that the tape tells.
func (c *core) sampled() int {
	ids := c.byKey()
	var ages []int
	var sizes []uint64
	for _, id := range ids {
		ages = append(ages, c.age(id))
		sizes = append(sizes, word.Of(c.objects[id].size))
	}
	some, behind := tape.Some(c.tape, len(ids), api.Sample)
	c.tape = behind
	at, _ := lhd.Victim(c.rank, ages, sizes, some)
	return ids[at]
}

// victim is the one of some entries that goes first.
func (c *core) victim() int {
	switch c.config.Kind {
	case api.LRU:
		id, _ := list.Last(c.order)
		return id
	case api.LHD:
		return c.sampled()
	}
	x, _ := heap.Min(c.ranks)
	return x.ID
}

// lower brings the level down to 0, and all ranks with it.
func (c *core) lower() {
	var pris []uint64
	for _, x := range c.ranks {
		pris = append(pris, x.Pri)
	}
	ranks := c.ranks
	for i, pri := range gds.Renew(c.level, pris) {
		c.ranks, _ = heap.Set(c.ranks, api.Item{ID: ranks[i].ID, Pri: pri, Seq: ranks[i].Seq})
	}
	c.level = 0
}

// letGo lets one of some entries go, and tells its key.
func (c *core) letGo() string {
	id := c.victim()
	key, age := c.objects[id].key, c.age(id)
	x, _ := heap.Find(c.ranks, id)
	c.remove(id)
	c.stats.Outs = one(c.stats.Outs)
	switch {
	case ranked(c.config.Kind):
		c.level = x.Pri
		if c.level >= api.High {
			c.lower()
		}
	case c.config.Kind == api.LHD:
		c.rank = lhd.Out(c.rank, age)
		if c.stats.Outs%api.Fades == 0 {
			c.rank = lhd.Fade(c.rank)
		}
	}
	return key
}

// makeRoom lets entries go, as long as there is no room, and tells their keys. Without any there is room.
func (c *core) makeRoom(full func() bool) []string {
	var outs []string
room:
	for {
		if !full() {
			break room
		}
		outs = append(outs, c.letGo())
	}
	return outs
}

// count counts a request.
func (c *core) count(key string, size int) {
	if c.config.Admit != api.Coin {
		return
	}
	c.window = tune.Note(c.window, key, size)
	c.asked++
	if c.asked < c.config.Window {
		return
	}
	// A grid that may be has a limit: there is a best one.
	c.config.Limit, _ = tune.Best(c.window, word.Of(c.config.Cap), c.config.Grid)
	c.window, c.asked = nil, 0
}
