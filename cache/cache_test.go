package cache_test

import (
	"fmt"
	"math"
	"math/rand"
	"slices"
	"strings"
	"testing"

	"linhay/api"
	"linhay/cache"
)

// begun is a cache of a configuration, and a tape.
func begun(t *testing.T, c api.Config, bytes string) cache.Cache {
	x, e := cache.New(c, bytes)
	if e != api.OK {
		t.Fatalf("New of %v: %d", c, e)
	}
	return x
}

// put is a call.
func put(key string, size, cost, n int, tags ...string) api.Call {
	return api.Call{Kind: api.CPut, Key: key, Data: strings.Repeat(key[:1], size), Cost: cost, N: n, Tags: tags}
}

func get(key string) api.Call { return api.Call{Kind: api.CGet, Key: key} }

func entry(key string, used int) api.Entry {
	return api.Entry{Key: key, Data: key, Freq: 1, Used: used}
}

// good is a state that may be, of which much can be changed.
func good() api.State {
	return api.State{
		Config: api.Config{Cap: 20, Kind: api.GDSF, Admit: api.Coin, Limit: 5, Window: 10, Grid: []int{1, 9}},
		Tape:   api.Tape{Bytes: "0123456789", At: 2},
		Now:    7, Seq: 9, Level: 3,
		Window: []api.Seen{{Key: "a", Size: 5, N: 4}, {Key: "b", Size: 1, N: 5}}, Asked: 9,
		Entries: []api.Entry{
			{Key: "a", Data: "0123456789", Cost: 1 << 20, Freq: 1, Used: 9, Pri: 3, Until: 8, Tags: []string{"x", "y"}},
			{Key: "b", Data: "0123456789", Freq: math.MaxUint64, Used: 1, Pri: math.MaxUint64, Until: 1 << 40},
		},
		Stats: api.Stats{Hits: math.MaxUint64, Outs: 5},
	}
}

func TestP22_1New(t *testing.T) {
	grid := []int{1, 9}
	c := api.Config{Cap: 20, Kind: api.LHD, Admit: api.Coin, Limit: 5, Window: 10, Grid: grid}
	x := begun(t, c, "tape")
	grid[0] = 7
	want := api.State{Config: c, Tape: api.Tape{Bytes: "tape"}}
	want.Config.Grid = []int{1, 9}
	if s := cache.Show(x); !equalStates(s, want) {
		t.Errorf("a new cache keeps %v", s)
	}
	for i, c := range []api.Config{{}, {Cap: 1<<16 + 1}, {Cap: 5, Kind: 4}, {Cap: 5, Admit: 3}, {Cap: 5, Limit: 1}} {
		x, e := cache.New(c, "tape")
		if e != api.ErrConfig || !equalStates(cache.Show(x), api.State{}) {
			t.Errorf("%d: %d", i, e)
		}
		if _, r := cache.Do(x, get("a")); !equalReplies(r, api.Reply{Err: api.ErrConfig}) {
			t.Errorf("%d: %v", i, r)
		}
	}
	for kind := -1; kind < 9; kind++ {
		y, r := cache.Do(cache.Cache{}, api.Call{Kind: kind, Key: "a"})
		if !equalReplies(r, api.Reply{Err: api.ErrConfig}) || !equalStates(cache.Show(y), api.State{}) {
			t.Errorf("no cache, and the kind %d: %v", kind, r)
		}
	}
}

func TestP22_1Check(t *testing.T) {
	many := api.State{Config: api.Config{Cap: 100}, Seq: 100}
	for i := range 64 {
		many.Entries = append(many.Entries, entry(fmt.Sprintf("%02d", i), i+1))
	}
	full := api.State{Config: api.Config{Cap: 1 << 16}, Seq: 1 << 40, Now: 1 << 40}
	for i := range 16 {
		e := entry(fmt.Sprintf("%02d", i), 1<<40-i)
		e.Data = strings.Repeat("x", 4096)
		full.Entries = append(full.Entries, e)
	}
	lhd := good()
	lhd.Config.Kind, lhd.Level, lhd.Rank = api.LHD, 0, api.Rank{Hits: [8]uint64{math.MaxUint64}, Outs: [8]uint64{7: 1}}
	for i := range lhd.Entries {
		lhd.Entries[i].Pri = 0
	}
	for i := range many.Entries {
		many.Entries[i].Data = "x"
	}
	for i, s := range []api.State{good(), {Config: api.Config{Cap: 1}}, many, full, lhd} {
		kept := copied(s)
		c, e := cache.Of(s)
		if !cache.Check(s) || e != api.OK {
			t.Errorf("%d: %d", i, e)
		}
		if got := cache.Show(c); !equalStates(got, kept) || !equalStates(s, kept) {
			t.Errorf("%d is told as %v", i, got)
		}
	}
}

// spoilt are changes after which the good state may not be.
func spoilt() []func(s *api.State) {
	return []func(s *api.State){
		func(s *api.State) { s.Config.Cap = 0 },
		func(s *api.State) { s.Config.Cap = 19 },
		func(s *api.State) { s.Config.Grid = nil },
		func(s *api.State) { s.Tape.At = -1 },
		func(s *api.State) { s.Tape.At = 3 },
		func(s *api.State) { s.Now = -1 },
		func(s *api.State) { s.Now = 1<<40 + 1; s.Entries = nil },
		func(s *api.State) { s.Now = 8 },
		func(s *api.State) { s.Seq = -1; s.Entries = nil },
		func(s *api.State) { s.Seq = 1<<40 + 1 },
		func(s *api.State) { s.Seq = 8 },
		func(s *api.State) { s.Level = 4 },
		func(s *api.State) { s.Level = 1 << 60; s.Entries = nil },
		func(s *api.State) { s.Rank.Hits[0] = 1 },
		func(s *api.State) { s.Rank.Outs[7] = 1 },
		func(s *api.State) { s.Window[1].Key = "a" },
		func(s *api.State) { s.Window[0].Key = "" },
		func(s *api.State) { s.Window[1].Key = strings.Repeat("x", 17) },
		func(s *api.State) { s.Window[0].Size = 4097 },
		func(s *api.State) { s.Asked = 8 },
		func(s *api.State) { s.Asked = 10; s.Window[0].N = 5 },
		func(s *api.State) { s.Window = nil },
		func(s *api.State) { s.Config = api.Config{Cap: 20, Kind: api.GDSF} },
		func(s *api.State) { s.Config = api.Config{Cap: 20, Kind: api.GDSF}; s.Window = nil },
		func(s *api.State) { s.Config.Kind = api.LRU },
		func(s *api.State) { s.Config.Kind, s.Level = api.LRU, 0 },
		func(s *api.State) { s.Config.Kind, s.Entries = api.LHD, nil },
		func(s *api.State) { s.Entries[0].Key = "" },
		func(s *api.State) { s.Entries[0].Key = "b" },
		func(s *api.State) { s.Entries[0].Key = "c" },
		func(s *api.State) { s.Entries[1].Key = strings.Repeat("x", 17) },
		func(s *api.State) { s.Entries[0].Data = "" },
		func(s *api.State) { s.Entries[0].Data = "0123456789x" },
		func(s *api.State) { s.Config.Cap, s.Entries[0].Data = 1<<16, strings.Repeat("x", 4097) },
		func(s *api.State) { s.Entries[0].Cost = -1 },
		func(s *api.State) { s.Entries[0].Cost = 1<<20 + 1 },
		func(s *api.State) { s.Entries[0].Freq = 0 },
		func(s *api.State) { s.Entries[0].Used = 0 },
		func(s *api.State) { s.Entries[0].Used = 10 },
		func(s *api.State) { s.Entries[0].Used = 1 },
		func(s *api.State) { s.Entries[0].Pri = 2 },
		func(s *api.State) { s.Entries[0].Until = 7 },
		func(s *api.State) { s.Entries[0].Until = -1 },
		func(s *api.State) { s.Entries[0].Until = 1<<40 + 1 },
		func(s *api.State) { s.Entries[0].Tags = []string{"y", "x"} },
		func(s *api.State) { s.Entries[0].Tags = []string{"x", "x"} },
		func(s *api.State) { s.Entries[0].Tags = []string{""} },
		func(s *api.State) { s.Entries[0].Tags = []string{"a", "b", "c", "d"} },
	}
}

func TestP22_1CheckWrong(t *testing.T) {
	for i, change := range append(spoilt(), func(s *api.State) {
		s.Config.Cap, s.Seq, s.Entries = 1<<16, 100, nil
		for i := range 65 {
			e := entry(fmt.Sprintf("%02d", i), i+1)
			e.Pri = 3
			s.Entries = append(s.Entries, e)
		}
	}) {
		s := good()
		change(&s)
		c, e := cache.Of(s)
		if cache.Check(s) || e != api.ErrConfig || !equalStates(cache.Show(c), api.State{}) {
			t.Errorf("%d may be", i)
		}
	}
}

func TestP22_2(t *testing.T) {
	s := good()
	s.Seq = 1<<40 - 1
	c, _ := cache.Of(s)
	for _, kind := range []int{0, -1, 8, math.MinInt, math.MaxInt} {
		if y, r := cache.Do(c, api.Call{Kind: kind}); !equalReplies(r, api.Reply{Err: api.ErrCall}) || !equalStates(cache.Show(y), s) {
			t.Errorf("the kind %d: %v", kind, r)
		}
	}
	last, r := cache.Do(c, get("z"))
	if r.Err != api.OK || cache.Show(last).Seq != 1<<40 {
		t.Errorf("the last call: %v", r)
	}
	for kind := 0; kind < 9; kind++ {
		y, r := cache.Do(last, api.Call{Kind: kind, Key: "a", Data: "a", N: 1})
		if !equalReplies(r, api.Reply{Err: api.ErrCall}) || !equalStates(cache.Show(y), cache.Show(last)) {
			t.Errorf("one call more, of the kind %d: %v", kind, r)
		}
	}
	// Each call without an error counts, one that does nothing too.
	c = begun(t, api.Config{Cap: 10}, "")
	for i, x := range []api.Call{get("a"), {Kind: api.CStats}, {Kind: api.CTick}, {Kind: api.CPurge, Key: "t"}, {Kind: api.CResize, N: 10}} {
		if c, r = cache.Do(c, x); r.Err != api.OK || cache.Show(c).Seq != i+1 {
			t.Errorf("%d: %v, %d", i, r, cache.Show(c).Seq)
		}
	}
}

func TestP22Errors(t *testing.T) {
	s := good()
	c, _ := cache.Of(s)
	long := strings.Repeat("x", 17)
	big := strings.Repeat("x", 4097)
	four := []string{"a", "b", "c", "d"}
	for i, x := range []struct {
		call api.Call
		e    api.Errno
	}{
		{get(""), api.ErrKey},
		{get(long), api.ErrKey},
		{api.Call{Kind: api.CPut, Key: "", Cost: -1, N: -1}, api.ErrKey},
		{api.Call{Kind: api.CPut, Key: long, Data: "x"}, api.ErrKey},
		{api.Call{Kind: api.CPut, Key: "c", Cost: -1, N: -1, Tags: four}, api.ErrKey},
		{api.Call{Kind: api.CPut, Key: "c", Data: "x", Tags: []string{"123456789"}}, api.ErrKey},
		{api.Call{Kind: api.CPut, Key: "c", Cost: -1, N: -1}, api.ErrSize},
		{api.Call{Kind: api.CPut, Key: "c", Data: big}, api.ErrSize},
		{api.Call{Kind: api.CPut, Key: "c", Data: big[:21], Cost: -1, N: -1}, api.ErrCall},
		{api.Call{Kind: api.CPut, Key: "c", Data: "x", Cost: 1<<20 + 1}, api.ErrCall},
		{api.Call{Kind: api.CPut, Key: "c", Data: big[:21], N: -1}, api.ErrTime},
		{api.Call{Kind: api.CPut, Key: "c", Data: "x", N: 1<<40 - 6}, api.ErrTime},
		{api.Call{Kind: api.CPut, Key: "c", Data: "x", N: math.MaxInt}, api.ErrTime},
		{api.Call{Kind: api.CPut, Key: "c", Data: big[:21]}, api.ErrRoom},
		{api.Call{Kind: api.CPut, Key: "a", Data: big[:4096]}, api.ErrRoom},
		{api.Call{Kind: api.CDelete}, api.ErrKey},
		{api.Call{Kind: api.CDelete, Key: long}, api.ErrKey},
		{api.Call{Kind: api.CDelete, Key: "c"}, api.ErrNone},
		{api.Call{Kind: api.CPurge}, api.ErrKey},
		{api.Call{Kind: api.CPurge, Key: "123456789"}, api.ErrKey},
		{api.Call{Kind: api.CTick, N: -1}, api.ErrTime},
		{api.Call{Kind: api.CTick, N: math.MinInt}, api.ErrTime},
		{api.Call{Kind: api.CTick, N: 1<<40 - 6}, api.ErrTime},
		{api.Call{Kind: api.CTick, N: math.MaxInt}, api.ErrTime},
		{api.Call{Kind: api.CResize}, api.ErrConfig},
		{api.Call{Kind: api.CResize, N: -1}, api.ErrConfig},
		{api.Call{Kind: api.CResize, N: 1<<16 + 1}, api.ErrConfig},
	} {
		y, r := cache.Do(c, x.call)
		if !equalReplies(r, api.Reply{Err: x.e}) || !equalStates(cache.Show(y), s) {
			t.Errorf("%d: %v", i, r)
		}
		if _, want := do(s, x.call); !equalReplies(r, want) {
			t.Errorf("%d: %v, but the model %v", i, r, want)
		}
	}
}

// The greatest of what calls may have.
func TestP22Edges(t *testing.T) {
	s := api.State{Config: api.Config{Cap: 5000}, Now: 7}
	c, _ := cache.Of(s)
	for i, x := range []api.Call{
		{Kind: api.CPut, Key: "0123456789abcdef", Data: "x", Cost: 1 << 20, N: 1<<40 - 7, Tags: []string{"12345678", "b", "a"}},
		{Kind: api.CPut, Key: "a", Data: strings.Repeat("x", 4096)},
		{Kind: api.CPut, Key: "b", Data: strings.Repeat("x", 903)},
		{Kind: api.CResize, N: 1 << 16},
		{Kind: api.CResize, N: 5000},
		{Kind: api.CTick},
		{Kind: api.CTick, N: 1<<40 - 8},
		{Kind: api.CPut, Key: "c", Data: "x", N: 1},
		{Kind: api.CTick, N: 1},
		{Kind: api.CPut, Key: "d", Data: "x"},
		{Kind: api.CPurge, Key: "12345678"},
		{Kind: api.CResize, N: 1},
	} {
		var r, want api.Reply
		c, r = cache.Do(c, x)
		s, want = do(s, x)
		if got := cache.Show(c); r.Err != api.OK || !equalReplies(r, want) || !equalStates(got, s) {
			t.Errorf("%d: %v, not %v", i, r, want)
		}
	}
}

// play does calls on a cache, and on the model, and holds them against each other.
func play(t *testing.T, r *rand.Rand, c cache.Cache, calls, keys, size int) {
	s := cache.Show(c)
	most := s.Config.Cap
	for range calls {
		x := call(r, keys, size, most)
		tags := slices.Clone(x.Tags)
		next, reply := cache.Do(c, x)
		want, wantReply := do(s, x)
		if got := cache.Show(next); !equalReplies(reply, wantReply) || !equalStates(got, want) {
			t.Fatalf("%v on %v:\n%v\n%v\nnot\n%v\n%v", x, s, reply, got, wantReply, want)
		}
		if !equalStates(cache.Show(c), s) || !slices.Equal(x.Tags, tags) {
			t.Fatalf("%v changes what was handed in", x)
		}
		if !cache.Check(want) {
			t.Fatalf("%v tells a state that may not be: %v", x, want)
		}
		used := 0
		for _, e := range want.Entries {
			used += len(e.Data)
		}
		if used > want.Config.Cap {
			t.Fatalf("%v keeps more than the capacity: %v", x, want)
		}
		c, s = next, want
		if r.Intn(10) == 0 {
			again, e := cache.Of(s)
			if e != api.OK {
				t.Fatalf("%v may not be: %d", s, e)
			}
			c = again
		}
	}
}

func TestP22_3AndOn(t *testing.T) {
	r := rand.New(rand.NewSource(39))
	for kind := range 4 {
		for admit := range 3 {
			for range 6 {
				size := 1 + r.Intn(40)
				c := begun(t, config(r, kind, admit, 1+r.Intn(8*size)), text(r, r.Intn(2000)))
				play(t, r, c, 300, 26, size)
			}
		}
	}
}

func TestP22_3AndOnFull(t *testing.T) {
	r := rand.New(rand.NewSource(40))
	for kind := range 4 {
		// Many small ones: as many as there may be; and some that fill many slots.
		play(t, r, begun(t, config(r, kind, 0, 1<<16), text(r, 4000)), 800, 130, 3)
		play(t, r, begun(t, config(r, kind, 2, 1<<16), text(r, 4000)), 150, 130, 4096)
	}
}

// There are never more than 64 entries, however little room they take.
func TestP22_4Many(t *testing.T) {
	for kind := range 4 {
		r := rand.New(rand.NewSource(44))
		c := begun(t, api.Config{Cap: 1 << 16, Kind: kind}, text(r, 500))
		s := cache.Show(c)
		gone := 0
		for i := range 300 {
			x := put(fmt.Sprintf("k%d", r.Intn(150)), 1+i%3, r.Intn(9), 0)
			if i%3 == 2 {
				x = get(fmt.Sprintf("k%d", r.Intn(150)))
			}
			var reply, want api.Reply
			c, reply = cache.Do(c, x)
			if s, want = do(s, x); !equalReplies(reply, want) || !equalStates(cache.Show(c), s) {
				t.Fatalf("%v: %v, not %v", x, reply, want)
			}
			gone += len(reply.Outs)
		}
		if len(s.Entries) != 64 || gone == 0 {
			t.Errorf("%d entries, %d gone", len(s.Entries), gone)
		}
	}
}

// What was put is told, whatever sizes come and go in a cache that is full: its bytes have room in the segments.
func TestP22_4Slots(t *testing.T) {
	r := rand.New(rand.NewSource(45))
	c := begun(t, api.Config{Cap: 1 << 16}, "")
	last := map[string]string{}
	for range 4000 {
		// Sizes whose last slots have much room over, and small ones that begin segments of their own.
		size := []int{1 + r.Intn(8), 9 + r.Intn(24), 33, 64*r.Intn(32) + 33, 64*r.Intn(64) + 1, 4096, 993, 1024}[r.Intn(8)]
		key := fmt.Sprintf("k%d", r.Intn(120))
		data := text(r, size)
		var reply api.Reply
		c, reply = cache.Do(c, api.Call{Kind: api.CPut, Key: key, Data: data})
		if !reply.Has {
			t.Fatalf("%d bytes do not come in: %v", size, reply)
		}
		last[key] = data
		for _, key := range reply.Outs {
			delete(last, key)
		}
		key = fmt.Sprintf("k%d", r.Intn(120))
		want, has := last[key]
		if c, reply = cache.Do(c, get(key)); reply.Has != has || reply.Data != want {
			t.Fatalf("%q tells %d bytes, not %d", key, len(reply.Data), len(want))
		}
	}
	for _, e := range cache.Show(c).Entries {
		if last[e.Key] != e.Data {
			t.Fatalf("%q has %d bytes, not %d", e.Key, len(e.Data), len(last[e.Key]))
		}
	}
}

func TestP22_3Held(t *testing.T) {
	s := good()
	s.Stats = api.Stats{Hits: math.MaxUint64, Misses: math.MaxUint64, HitBytes: math.MaxUint64 - 5, Puts: math.MaxUint64, Refused: math.MaxUint64, Outs: math.MaxUint64, Expired: math.MaxUint64}
	c, _ := cache.Of(s)
	c, _ = cache.Do(c, get("b"))
	c, _ = cache.Do(c, get("z"))
	got := cache.Show(c)
	want := s.Stats
	want.HitBytes = math.MaxUint64
	if got.Stats != want || got.Entries[1].Freq != math.MaxUint64 || got.Entries[1].Pri != 3 {
		t.Errorf("what is held: %v", got)
	}
	r := rand.New(rand.NewSource(41))
	for kind := range 4 {
		x := s
		x.Config.Kind = kind
		x.Entries = slices.Clone(s.Entries)
		if kind == api.LRU || kind == api.LHD {
			x.Level, x.Entries[0].Pri, x.Entries[1].Pri = 0, 0, 0
		}
		c, _ := cache.Of(x)
		play(t, r, c, 200, 26, 8)
	}
}

// What is let go at a level of High brings all down.
func TestP22High(t *testing.T) {
	s := api.State{Config: api.Config{Cap: 3, Kind: api.GDS}, Seq: 9, Level: 1<<60 - 1}
	for i, pri := range []uint64{1<<60 + 7, 1 << 60, math.MaxUint64} {
		e := entry(string(rune('a'+i)), i+1)
		e.Pri = pri
		s.Entries = append(s.Entries, e)
	}
	c, e := cache.Of(s)
	c, reply := cache.Do(c, put("d", 1, 5, 0))
	got := cache.Show(c)
	if e != api.OK || !slices.Equal(reply.Outs, []string{"b"}) || got.Level != 0 {
		t.Fatalf("%d, %v, %d", e, reply, got.Level)
	}
	for i, pri := range []uint64{7, math.MaxUint64 - 1<<60, 5 << 20} {
		if got.Entries[i].Pri != pri {
			t.Errorf("%q: %d", got.Entries[i].Key, got.Entries[i].Pri)
		}
	}
	r := rand.New(rand.NewSource(42))
	for _, level := range []uint64{1<<60 - 1<<22, 1<<60 - 1<<25, 1<<60 - 1} {
		for kind := api.GDS; kind <= api.GDSF; kind++ {
			c, _ := cache.Of(api.State{Config: api.Config{Cap: 30, Kind: kind}, Level: level})
			play(t, r, c, 400, 26, 5)
		}
	}
}

func TestP22Memory(t *testing.T) {
	s := good()
	c, _ := cache.Of(s)
	s.Config.Grid[0], s.Window[0].N, s.Entries[0].Tags[0], s.Entries[0].Data = 8, 9, "w", "w"
	shown := cache.Show(c)
	if !equalStates(shown, good()) {
		t.Error("what was handed in is kept")
	}
	shown.Config.Grid[0], shown.Window[0].N, shown.Entries[0].Tags[0], shown.Entries[0].Data = 8, 9, "w", "w"
	if !equalStates(cache.Show(c), good()) {
		t.Error("what is told is kept")
	}
	tags := []string{"p", "q"}
	c, _ = cache.Do(c, api.Call{Kind: api.CPut, Key: "a", Data: "a", Tags: tags})
	tags[0] = "z"
	if got := cache.Show(c).Entries[0].Tags; !slices.Equal(got, []string{"p", "q"}) {
		t.Errorf("the tags of a call are kept: %q", got)
	}
}

// done does calls, one behind the other, and tells the last cache, and all replies.
func done(c cache.Cache, l ...api.Call) (cache.Cache, []api.Reply) {
	var out []api.Reply
	for _, x := range l {
		var r api.Reply
		c, r = cache.Do(c, x)
		out = append(out, r)
	}
	return c, out
}

func outs(l []api.Reply) string {
	var all []string
	for _, r := range l {
		all = append(all, r.Outs...)
	}
	return strings.Join(all, " ")
}

func TestP22Examples(t *testing.T) {
	for i, c := range []struct {
		config api.Config
		calls  []api.Call
		want   string
	}{
		{api.Config{Cap: 10}, []api.Call{put("a", 6, 0, 0), put("b", 4, 0, 0), get("a"), put("c", 4, 0, 0)}, "b"},
		{api.Config{Cap: 10, Kind: api.GDS}, []api.Call{put("a", 6, 1, 0), put("b", 4, 9, 0), get("a"), put("c", 4, 0, 0)}, "a"},
		{api.Config{Cap: 10, Kind: api.GDSF}, []api.Call{put("a", 5, 2, 0), put("b", 5, 3, 0), get("a"), put("c", 4, 0, 0)}, "b"},
		{api.Config{Cap: 90}, []api.Call{put("c", 1, 0, 0, "t"), put("a", 1, 0, 0, "t", "u"), put("b", 1, 0, 0, "u", "t"), put("d", 1, 0, 0, "u"), {Kind: api.CPurge, Key: "t"}}, "a b c"},
		{api.Config{Cap: 90}, []api.Call{put("b", 1, 0, 5), put("c", 1, 0, 4), put("a", 1, 0, 5), put("d", 1, 0, 6), {Kind: api.CTick, N: 5}}, "c a b"},
		{api.Config{Cap: 90}, []api.Call{put("b", 20, 0, 0), put("c", 20, 0, 0), put("a", 20, 0, 0), get("b"), {Kind: api.CResize, N: 25}}, "c a"},
		{api.Config{Cap: 10}, []api.Call{put("a", 6, 0, 0), put("b", 4, 0, 0), put("b", 11, 0, 0)}, ""},
	} {
		if _, l := done(begun(t, c.config, ""), c.calls...); outs(l) != c.want {
			t.Errorf("%d: %q", i, outs(l))
		}
	}
}

func TestP22_6(t *testing.T) {
	r := rand.New(rand.NewSource(43))
	for kind := range 4 {
		c := begun(t, config(r, kind, kind%3, 200), text(r, 3000))
		last := map[string]string{}
		for range 1500 {
			x := call(r, 26, 30, 200)
			before := cache.Show(c)
			var reply api.Reply
			c, reply = cache.Do(c, x)
			if reply.Err != api.OK {
				if !equalStates(cache.Show(c), before) {
					t.Fatalf("%v has an error, and changes something", x)
				}
				continue
			}
			for _, key := range reply.Outs {
				delete(last, key)
			}
			switch {
			case x.Kind == api.CPut && reply.Has:
				last[x.Key] = x.Data
			case x.Kind == api.CDelete:
				delete(last, x.Key)
			case x.Kind == api.CGet:
				if data, has := last[x.Key]; has != reply.Has || data != reply.Data {
					t.Fatalf("a hit tells %q, not %q", reply.Data, data)
				}
			}
			// Two that keep the same go on as one.
			again, _ := cache.Of(cache.Show(c))
			y := call(r, 26, 30, 200)
			a, ra := cache.Do(c, y)
			b, rb := cache.Do(again, y)
			if !equalReplies(ra, rb) || !equalStates(cache.Show(a), cache.Show(b)) {
				t.Fatalf("%v goes on otherwise", y)
			}
		}
	}
}
