package run_test

import (
	"encoding/binary"
	"math"
	"math/rand"
	"slices"
	"strings"
	"testing"

	"linhay/api"
	"linhay/cache"
	"linhay/gds"
	"linhay/pack"
	"linhay/run"
	"linhay/snap"
	"linhay/store"
	"linhay/tune"
)

// answered are the replies that a report tells of calls, and the state at its end.
func answered(t *testing.T, report string, l []api.Call) ([]api.Reply, api.State) {
	var out []api.Reply
	number := func() uint64 {
		n, rest, e := pack.Take(report)
		if report = rest; e != api.OK {
			t.Fatalf("no number: %q", rest)
		}
		return n
	}
	text := func() string {
		s, rest, e := pack.TakeText(report)
		if report = rest; e != api.OK {
			t.Fatalf("no text: %q", rest)
		}
		return s
	}
	for _, x := range l {
		r := api.Reply{Err: api.Errno(number())}
		if r.Err == api.OK {
			r.Has, r.Data = number() == 1, text()
			for range number() {
				r.Outs = append(r.Outs, text())
			}
			if s := &r.Stats; x.Kind == api.CStats {
				for _, p := range []*uint64{&s.Hits, &s.Misses, &s.HitBytes, &s.Puts, &s.Refused, &s.Outs, &s.Expired} {
					*p = number()
				}
			}
		}
		out = append(out, r)
	}
	s, e := snap.Read(text())
	if e != api.OK || report != "" {
		t.Fatalf("no state at the end: %d, %q", e, report)
	}
	return out, s
}

// served are the replies to a script's calls, and the state at its end.
func served(t *testing.T, c api.Config, tape string, l []api.Call) ([]api.Reply, api.State) {
	b, e := run.Write(c, tape, l)
	if e != api.OK {
		t.Fatalf("Write: %d", e)
	}
	report, e := run.Run(b)
	if e != api.OK {
		t.Fatalf("Run: %d", e)
	}
	return answered(t, report, l)
}

func put(key string, size, cost, n int, tags ...string) api.Call {
	return api.Call{Kind: api.CPut, Key: key, Data: strings.Repeat(key[:1], size), Cost: cost, N: n, Tags: tags}
}

func get(key string) api.Call { return api.Call{Kind: api.CGet, Key: key} }

func drawn(l ...uint32) string {
	var b []byte
	for _, n := range l {
		b = binary.LittleEndian.AppendUint32(b, n)
	}
	return string(b)
}

func outs(l []api.Reply) string {
	var all []string
	for _, r := range l {
		all = append(all, r.Outs...)
	}
	return strings.Join(all, " ")
}

// The document's ten examples of the whole.
func TestExamples(t *testing.T) {
	four := []api.Call{put("a", 6, 1, 0), put("b", 4, 9, 0), get("a"), put("c", 4, 1, 0)}
	if l, _ := served(t, api.Config{Cap: 10}, "", four); outs(l) != "b" {
		t.Errorf("1: %q goes", outs(l))
	}
	if l, _ := served(t, api.Config{Cap: 10, Kind: api.GDS}, "", four); outs(l) != "a" {
		t.Errorf("2: %q goes", outs(l))
	}
	l, s := served(t, api.Config{Cap: 10}, "", []api.Call{put("a", 6, 0, 0), get("a"), put("a", 3, 0, 0), get("a")})
	if l[3].Data != "aaa" || s.Entries[0].Freq != 4 || len(s.Entries) != 1 {
		t.Errorf("3: %v", s.Entries)
	}
	l, s = served(t, api.Config{Cap: 10}, "", []api.Call{put("a", 6, 0, 0), put("b", 11, 0, 0)})
	if l[1].Err != api.ErrRoom || len(s.Entries) != 1 || s.Seq != 1 || s.Stats.Puts != 1 {
		t.Errorf("4: %v, %v", l[1], s)
	}
	l, _ = served(t, api.Config{Cap: 10}, "", []api.Call{put("c", 1, 0, 0, "t"), put("a", 1, 0, 0, "t"), put("d", 1, 0, 0, "u"), put("b", 1, 0, 0, "u", "t"), {Kind: api.CPurge, Key: "t"}})
	if outs(l) != "a b c" {
		t.Errorf("5: %q", outs(l))
	}
	l, _ = served(t, api.Config{Cap: 10}, "", []api.Call{put("b", 1, 0, 3), put("a", 1, 0, 3), {Kind: api.CTick, N: 3}})
	if outs(l) != "a b" {
		t.Errorf("6: %q", outs(l))
	}
	l, s = served(t, api.Config{Cap: 10}, "", []api.Call{put("b", 4, 0, 0), put("a", 4, 0, 0), put("c", 2, 0, 0), {Kind: api.CResize, N: 5}})
	if outs(l) != "b a" || len(s.Entries) != 1 || s.Config.Cap != 5 {
		t.Errorf("7: %q", outs(l))
	}
	coin := api.Config{Cap: 5000, Admit: api.Coin, Limit: 64, Window: 100, Grid: []int{1}}
	l, _ = served(t, coin, drawn(1580030168, 1580030167), []api.Call{put("a", 64, 0, 0), put("b", 64, 0, 0)})
	if l[0].Has || !l[1].Has {
		t.Errorf("8: %v, %v", l[0].Has, l[1].Has)
	}
	l, s = served(t, coin, "abc", []api.Call{put("a", 1, 0, 0), put("b", 64, 0, 0), put("c", 1419, 0, 0), put("d", 4096, 0, 0)})
	if !l[0].Has || !l[1].Has || !l[2].Has || l[3].Has || s.Tape.At != 0 || s.Stats.Refused != 1 {
		t.Errorf("9: %v", l)
	}
	b, _ := snap.Write(s)
	for at := range 8 * len(b) {
		changed := []byte(b)
		changed[at/8] ^= 1 << (at % 8)
		if _, e := snap.Read(string(changed)); e != api.ErrState {
			t.Errorf("10: the bit %d is not seen", at)
		}
	}
}

// config is a configuration that may be.
func config(r *rand.Rand, kind, admit, most int) api.Config {
	c := api.Config{Cap: most, Kind: kind, Admit: admit}
	if admit > 0 {
		c.Limit = 1 + r.Intn(60)
	}
	if admit == api.Coin {
		c.Window, c.Grid = 1+r.Intn(30), []int{1 + r.Intn(10), 20 + r.Intn(50)}
	}
	return c
}

// tally is what the replies of a cache add up to.
type tally struct {
	has   map[string]string
	stats api.Stats
	seq   int
}

// add adds a call, and its reply, which is held against what is known.
func (y *tally) add(t *testing.T, x api.Call, r api.Reply) {
	if r.Err != api.OK {
		return
	}
	y.seq++
	for _, key := range r.Outs {
		delete(y.has, key)
	}
	s := &y.stats
	switch data, known := y.has[x.Key]; x.Kind {
	case api.CGet:
		if r.Has != known || r.Data != data {
			t.Fatalf("%v is told %v, not %q", x, r, data)
		}
		if known {
			s.Hits, s.HitBytes = s.Hits+1, s.HitBytes+uint64(len(data))
		} else {
			s.Misses++
		}
	case api.CPut:
		s.Outs += uint64(len(r.Outs))
		if r.Has {
			y.has[x.Key], s.Puts = x.Data, s.Puts+1
		} else {
			s.Refused++
		}
	case api.CDelete:
		delete(y.has, x.Key)
	case api.CTick:
		s.Expired += uint64(len(r.Outs))
	case api.CResize:
		s.Outs += uint64(len(r.Outs))
	case api.CStats:
		if r.Stats != *s {
			t.Fatalf("%v is told, not %v", r.Stats, *s)
		}
	}
}

// fine are the calls that have no error.
func fine(l []api.Call, replies []api.Reply) []api.Call {
	var out []api.Call
	for i, x := range l {
		if replies[i].Err == api.OK {
			out = append(out, x)
		}
	}
	return out
}

func TestW1(t *testing.T) {
	r := rand.New(rand.NewSource(49))
	for i := range 12 {
		c := config(r, i/3, i%3, 150)
		drawn, l := bytes(r, 700), calls(r, 300, 150, 40)
		l = append(l, api.Call{Kind: api.CPut}, api.Call{Kind: api.CDelete, Key: "none"}, api.Call{Kind: api.CResize}, api.Call{Kind: api.CStats})
		replies, s := served(t, c, drawn, l)
		y := tally{has: map[string]string{}}
		for i, x := range l {
			y.add(t, x, replies[i])
		}
		if s.Stats != y.stats || s.Seq != y.seq || len(s.Entries) != len(y.has) {
			t.Fatalf("%v, %d, not %v, %d", s.Stats, s.Seq, y.stats, y.seq)
		}
		for i, e := range s.Entries {
			if y.has[e.Key] != e.Data || i > 0 && s.Entries[i-1].Key >= e.Key {
				t.Fatalf("%q has %q", e.Key, e.Data)
			}
		}
		// Calls with an error leave nothing behind.
		_, end := served(t, c, drawn, fine(l, replies))
		all, _ := snap.Write(s)
		if some, _ := snap.Write(end); all != some {
			t.Fatal("a call with an error leaves something behind")
		}
	}
}

func TestW2(t *testing.T) {
	r := rand.New(rand.NewSource(50))
	for kind := range 4 {
		c := config(r, kind, 0, 1<<16)
		l := calls(r, 150, 1<<16, 4096)
		_, s := served(t, c, bytes(r, 700), l)
		used := 0
		segments, _ := store.New(api.MaxSegs)
		for _, e := range s.Entries {
			used += len(e.Data)
			var f api.Errno
			if segments, _, f = store.Put(segments, e.Data); f != api.OK {
				t.Fatalf("no room for %d bytes: %d", len(e.Data), f)
			}
		}
		if used > s.Config.Cap {
			t.Fatalf("%d bytes, of %d", used, s.Config.Cap)
		}
	}
	// Time in one step, and in two: the same is gone at the end.
	l := calls(r, 80, 300, 20)
	one, s := served(t, api.Config{Cap: 300}, "", append(slices.Clone(l), api.Call{Kind: api.CTick, N: 9}))
	two, u := served(t, api.Config{Cap: 300}, "", append(slices.Clone(l), api.Call{Kind: api.CTick, N: 4}, api.Call{Kind: api.CTick, N: 5}))
	if outs(one[80:]) != outs(two[80:]) || len(s.Entries) != len(u.Entries) || s.Now != u.Now {
		t.Errorf("%q, and %q, expire", outs(one[80:]), outs(two[80:]))
	}
	// So with a lesser capacity, by use.
	one, s = served(t, api.Config{Cap: 300}, "", append(slices.Clone(l), api.Call{Kind: api.CResize, N: 30}))
	two, u = served(t, api.Config{Cap: 300}, "", append(slices.Clone(l), api.Call{Kind: api.CResize, N: 90}, api.Call{Kind: api.CResize, N: 30}))
	if outs(one[80:]) != outs(two[80:]) || len(s.Entries) != len(u.Entries) || s.Config.Cap != u.Config.Cap {
		t.Errorf("%q, and %q, are let go", outs(one[80:]), outs(two[80:]))
	}
}

// asked asks for objects one behind the other, puts those that are not there, and tells which were, and what the others cost.
func asked(c api.Config, sizes, costs, ids []int) ([]bool, uint64) {
	x, _ := cache.New(c, "")
	var hits []bool
	var l []api.Serve
	for _, id := range ids {
		key := string(rune('a' + id))
		var r api.Reply
		if x, r = cache.Do(x, get(key)); !r.Has {
			x, _ = cache.Do(x, put(key, sizes[id], costs[id], 0))
		}
		hits, l = append(hits, r.Has), append(l, api.Serve{Hit: r.Has})
	}
	return hits, gds.Paid(sizes, costs, ids, l)
}

func TestW3(t *testing.T) {
	r := rand.New(rand.NewSource(51))
	for range 200 {
		n, h := 2+r.Intn(12), 3+r.Intn(15)
		k := h + r.Intn(12)
		sizes, costs, ids := make([]int, n), make([]int, n), make([]int, r.Intn(150))
		for i := range sizes {
			sizes[i], costs[i] = 1+r.Intn(h), r.Intn(30)
		}
		for i := range ids {
			ids[i] = r.Intn(n)
		}
		_, paid := asked(api.Config{Cap: k, Kind: api.GDS}, sizes, costs, ids)
		for kind := range 4 {
			if _, other := asked(api.Config{Cap: h, Kind: kind}, sizes, costs, ids); uint64(k-h+1)*paid > uint64(k)*other {
				t.Fatalf("%d of %d, %d of %d of the kind %d", paid, k, other, h, kind)
			}
		}
		less, _ := asked(api.Config{Cap: h}, sizes, costs, ids)
		more, _ := asked(api.Config{Cap: k}, sizes, costs, ids)
		for i := range less {
			if less[i] && !more[i] {
				t.Fatalf("%d hits, %d does not", h, k)
			}
		}
	}
}

func TestW4(t *testing.T) {
	r := rand.New(rand.NewSource(52))
	for range 300 {
		limit, size, draw := 1+r.Intn(200), 1+r.Intn(400), r.Uint32()
		c := api.Config{Cap: 5000, Admit: api.Coin, Limit: limit, Window: 1000, Grid: []int{1}}
		l, _ := served(t, c, drawn(draw), []api.Call{put("a", size, 0, 0)})
		exact := math.Exp(-float64(size)/float64(limit)) * (1 << 32)
		if far := math.Abs(exact-float64(draw)) > 256; far && l[0].Has != (float64(draw) < exact) {
			t.Fatalf("%d beside %d, and the draw %d: %v", size, limit, draw, l[0].Has)
		}
	}
	for range 60 {
		c := api.Config{Cap: 50 + r.Intn(500), Admit: api.Coin, Limit: 1 << 16, Window: 5 + r.Intn(30), Grid: []int{1, 5, 20, 80, 300, 1000}}
		var window []api.Seen
		var l []api.Call
		for range c.Window {
			x := put(string(rune('a'+r.Intn(8))), 1+r.Intn(50), 0, 0)
			window = tune.Note(window, x.Key, len(x.Data))
			l = append(l, x)
		}
		_, s := served(t, c, "", l)
		for _, limit := range c.Grid {
			if tune.Score(window, uint64(limit), uint64(c.Cap)) > tune.Score(window, uint64(s.Config.Limit), uint64(c.Cap)) {
				t.Fatalf("%d is better than %d", limit, s.Config.Limit)
			}
		}
		if len(s.Window) != 0 || s.Asked != 0 || !slices.Contains(c.Grid, s.Config.Limit) {
			t.Fatalf("the limit is %d, and the window %v", s.Config.Limit, s.Window)
		}
	}
}

func TestW5(t *testing.T) {
	r := rand.New(rand.NewSource(53))
	for kind := range 4 {
		for admit := range 3 {
			c := config(r, kind, admit, 150)
			tape, l := bytes(r, 700), calls(r, 200, 150, 40)
			for range 5 {
				at := r.Intn(len(l))
				_, s := served(t, c, tape, l[:at])
				b, _ := snap.Write(s)
				x, e := snap.Load(b)
				if e != api.OK {
					t.Fatalf("Load: %d", e)
				}
				want, end := served(t, c, tape, l)
				for i, y := range l[at:] {
					var reply api.Reply
					x, reply = cache.Do(x, y)
					if run.Tell(y, reply) != run.Tell(y, want[at+i]) {
						t.Fatalf("%v goes on as %v, not %v", y, reply, want[at+i])
					}
				}
				saved, _ := snap.Save(x)
				if all, _ := snap.Write(end); saved != all {
					t.Fatal("what was loaded ends otherwise")
				}
			}
		}
	}
	for range 3000 {
		b := bytes(r, r.Intn(60))
		if s, e := snap.Read(b); e != api.ErrState || len(s.Entries) != 0 {
			t.Fatalf("%q is a state's: %d", b, e)
		}
		if out, e := run.Run(b); (out == "") != (e != api.OK) {
			t.Fatalf("%q tells %q, %d", b, out, e)
		}
	}
}
