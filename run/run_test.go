package run_test

import (
	"math"
	"math/rand"
	"slices"
	"strings"
	"testing"

	"linhay/api"
	"linhay/cache"
	"linhay/run"
	"linhay/snap"
)

// lay are the bytes of numbers and texts, as the chapters say them.
func lay(l ...any) string {
	var out []byte
	for _, x := range l {
		switch v := x.(type) {
		case int:
			out = append(out, lay(uint64(v))...)
		case uint64:
			for ; v > 127; v /= 128 {
				out = append(out, byte(v%128)+128)
			}
			out = append(out, byte(v))
		case string:
			out = append(append(out, lay(len(v))...), v...)
		case []string:
			out = append(out, lay(len(v))...)
			for _, t := range v {
				out = append(out, lay(t)...)
			}
		}
	}
	return string(out)
}

// script are a script's bytes, as the chapter says them.
func script(c api.Config, tape string, l []api.Call) string {
	out := lay(c.Cap, c.Kind, c.Admit, c.Limit, c.Window, len(c.Grid))
	for _, n := range c.Grid {
		out += lay(n)
	}
	out += lay(tape)
	for _, x := range l {
		switch x.Kind {
		case 1, 3, 4:
			out += lay(x.Kind, x.Key)
		case 2:
			out += lay(2, x.Key, x.Data, x.Cost, x.N, x.Tags)
		case 5, 6:
			out += lay(x.Kind, x.N)
		case 7:
			out += lay(7)
		}
	}
	return out
}

// told is what a reply is told as, as the chapter says it.
func told(x api.Call, r api.Reply) string {
	if r.Err != api.OK {
		return lay(max(0, int(r.Err)))
	}
	has := 0
	if r.Has {
		has = 1
	}
	out := lay(0, has, r.Data, r.Outs)
	if s := r.Stats; x.Kind == api.CStats {
		out += lay(s.Hits, s.Misses, s.HitBytes, s.Puts, s.Refused, s.Outs, s.Expired)
	}
	return out
}

func equalCalls(a, b []api.Call) bool {
	return slices.EqualFunc(a, b, func(x, y api.Call) bool {
		return x.Kind == y.Kind && x.Key == y.Key && x.Data == y.Data && x.Cost == y.Cost && x.N == y.N && slices.Equal(x.Tags, y.Tags)
	})
}

func equalConfigs(a, b api.Config) bool {
	return a.Cap == b.Cap && a.Kind == b.Kind && a.Admit == b.Admit && a.Limit == b.Limit && a.Window == b.Window && slices.Equal(a.Grid, b.Grid)
}

var most = math.MaxInt

// good are calls that may be.
func good() []api.Call {
	return []api.Call{
		{Kind: 1}, {Kind: 1, Key: "a"}, {Kind: 3, Key: strings.Repeat("k", 300)}, {Kind: 4, Key: "\x00"}, {Kind: 4, Tags: []string{}},
		{Kind: 2}, {Kind: 2, Key: "a", Data: "b\xff", Cost: most, N: most, Tags: []string{"z", "", "z", "t", "long one"}},
		{Kind: 5}, {Kind: 5, N: most}, {Kind: 6, N: 300}, {Kind: 7},
	}
}

// wrong are calls that may not be.
func wrong() []api.Call {
	return []api.Call{
		{}, {Kind: -1}, {Kind: 8}, {Kind: math.MinInt}, {Kind: most},
		{Kind: 1, Cost: -1}, {Kind: 2, Cost: -1}, {Kind: 2, N: -1}, {Kind: 5, N: -1}, {Kind: 6, N: math.MinInt}, {Kind: 7, N: -1},
		{Kind: 1, Data: "a"}, {Kind: 1, Cost: 1}, {Kind: 1, N: 1}, {Kind: 1, Tags: []string{""}},
		{Kind: 3, Key: "a", Data: "a"}, {Kind: 3, N: 1}, {Kind: 4, Key: "a", Cost: 1}, {Kind: 4, Tags: []string{"a"}},
		{Kind: 5, Key: "a"}, {Kind: 5, N: 1, Data: "a"}, {Kind: 6, Cost: 1}, {Kind: 6, N: 1, Tags: []string{"a"}},
		{Kind: 7, Key: "a"}, {Kind: 7, Data: "a"}, {Kind: 7, Cost: 1}, {Kind: 7, N: 1}, {Kind: 7, Tags: []string{"a"}},
	}
}

func TestP24_1Check(t *testing.T) {
	for i, x := range good() {
		if !run.Check(x) {
			t.Errorf("%d may be", i)
		}
	}
	for i, x := range wrong() {
		if run.Check(x) {
			t.Errorf("%d may not be", i)
		}
	}
}

// configs are some of which there are a script's bytes; not all of them may be.
func configs() []api.Config {
	return []api.Config{
		{}, {Cap: 10}, {Cap: most, Kind: most, Admit: most, Limit: most, Window: most, Grid: []int{0, most, 5, 5}},
		{Cap: 20, Kind: 3, Admit: 2, Limit: 5, Window: 10, Grid: []int{1, 300}},
	}
}

func TestP24_1(t *testing.T) {
	for i, c := range configs() {
		for j, tape := range []string{"", "tape", strings.Repeat("\xff", 400)} {
			for _, l := range [][]api.Call{nil, good(), good()[3:6]} {
				kept := slices.Clone(l)
				b, e := run.Write(c, tape, l)
				if e != api.OK || b != script(c, tape, l) || !equalCalls(l, kept) {
					t.Errorf("%d, %d: %d, %q", i, j, e, b)
				}
				d, s, m, e := run.Read(script(c, tape, l))
				if e != api.OK || !equalConfigs(c, d) || s != tape || !equalCalls(l, m) {
					t.Errorf("%d, %d: %d, %v, %q, %v", i, j, e, d, s, m)
				}
			}
		}
	}
}

func TestP24_1WriteWrong(t *testing.T) {
	for i, x := range wrong() {
		if b, e := run.Write(api.Config{Cap: 1}, "", []api.Call{{Kind: 7}, x}); b != "" || e != api.ErrScript {
			t.Errorf("%d: %q, %d", i, b, e)
		}
	}
	for i, c := range []api.Config{{Cap: -1}, {Kind: -1}, {Admit: -1}, {Limit: -1}, {Window: math.MinInt}, {Grid: []int{1, -1}}} {
		if b, e := run.Write(c, "", nil); b != "" || e != api.ErrScript {
			t.Errorf("%d: %q, %d", i, b, e)
		}
	}
}

func TestP24_1ReadWrong(t *testing.T) {
	start := lay(10, 0, 0, 0, 0, 0, "")
	over := lay(uint64(1 << 63))
	for i, b := range []string{
		"", "\x80", start[:6], start[:5],
		over + start[1:], lay(10, 0, 0, 0) + over + start[5:],
		lay(10, 0, 0, 0, 0, 1) + over + lay(""), lay(10, 0, 0, 0, 0, 2, 1), lay(10, 0, 0, 0, 0, most), lay(10, 0, 0, 0, 0) + over,
		lay(10, 0, 0, 0, 0, 0, 5) + "abcd",
		"\x8a\x00" + start[1:],
		start + "\x00", start + "\x08", start + "\x81", start + "\x81\x00", start + lay(uint64(math.MaxUint64)), start + over,
		start + lay(1), start + lay(1, 2) + "a", start + lay(3), start + lay(4), start + lay(5), start + lay(6),
		start + lay(5) + over, start + lay(6, uint64(math.MaxUint64)),
		start + lay(2, "a"), start + lay(2, "a", "b"), start + lay(2, "a", "b", 1), start + lay(2, "a", "b", 1, 1), start + lay(2, "a", "b", 1, 1, 1),
		start + lay(2, "a", "b") + over + lay(1, 0), start + lay(2, "a", "b", 1) + over + lay(0), start + lay(2, "a", "b", 1, 1) + over,
		start + lay(7) + "\x00", start + lay(7, 1, "a", 9),
	} {
		c, tape, l, e := run.Read(b)
		if e != api.ErrScript || !equalConfigs(c, api.Config{}) || tape != "" || len(l) != 0 {
			t.Errorf("%d: %v, %q, %v, %d", i, c, tape, l, e)
		}
		if out, e := run.Run(b); out != "" || e != api.ErrScript {
			t.Errorf("%d: %q, %d", i, out, e)
		}
	}
}

func TestP24_2(t *testing.T) {
	stats := api.Stats{Hits: 1, Misses: 300, HitBytes: math.MaxUint64, Puts: 4, Refused: 5, Outs: 6, Expired: 7}
	replies := []api.Reply{
		{}, {Has: true}, {Has: true, Data: "\x00data"}, {Outs: []string{"b", "", "a"}}, {Outs: []string{}}, {Stats: stats},
		{Has: true, Data: "d", Outs: []string{strings.Repeat("k", 200)}, Stats: stats},
		{Err: api.ErrKey}, {Err: api.ErrConfig, Has: true, Data: "d", Outs: []string{"a"}, Stats: stats},
		{Err: -1, Has: true}, {Err: api.Errno(math.MinInt)}, {Err: api.Errno(most)},
	}
	for i, r := range replies {
		for kind := -1; kind < 9; kind++ {
			x := api.Call{Kind: kind}
			if got := run.Tell(x, r); got != told(x, r) {
				t.Errorf("%d, of the kind %d: %q", i, kind, got)
			}
		}
	}
	if got := run.Tell(api.Call{Kind: 1}, api.Reply{Err: -1, Has: true}); got != "\x00" {
		t.Errorf("an error below 0: %q", got)
	}
}

// report is what a script tells, call by call.
func report(t *testing.T, c api.Config, tape string, l []api.Call) string {
	x, e := cache.New(c, tape)
	if e != api.OK {
		t.Fatalf("New: %d", e)
	}
	var out strings.Builder
	for _, y := range l {
		var r api.Reply
		x, r = cache.Do(x, y)
		out.WriteString(told(y, r))
	}
	saved, e := snap.Save(x)
	if e != api.OK {
		t.Fatalf("Save: %d", e)
	}
	return out.String() + lay(saved)
}

func TestP24_3(t *testing.T) {
	for i, c := range configs()[1:] {
		b, _ := run.Write(c, "tapetape", good())
		out, e := run.Run(b)
		if i == 1 {
			if out != "" || e != api.ErrConfig {
				t.Errorf("a configuration that may not be: %q, %d", out, e)
			}
			continue
		}
		if e != api.OK || out != report(t, c, "tapetape", good()) {
			t.Errorf("%d: %q, %d", i, out, e)
		}
	}
	b, _ := run.Write(api.Config{Cap: 5}, "", nil)
	if out, e := run.Run(b); e != api.OK || out != report(t, api.Config{Cap: 5}, "", nil) {
		t.Errorf("no calls: %q, %d", out, e)
	}
	if out, e := run.Run(""); out != "" || e != api.ErrScript {
		t.Errorf("nothing: %q, %d", out, e)
	}
}

// bytes are some bytes.
func bytes(r *rand.Rand, n int) string {
	b := make([]byte, n)
	r.Read(b)
	return string(b)
}

// calls are some calls, of which few have an error.
func calls(r *rand.Rand, n, most, size int) []api.Call {
	var out []api.Call
	for range n {
		x := api.Call{Kind: []int{1, 1, 1, 1, 2, 2, 2, 2, 2, 3, 4, 5, 5, 6, 7}[r.Intn(15)]}
		switch x.Kind {
		case 1, 2, 3:
			x.Key = string(rune('a' + r.Intn(26)))
		case 4:
			x.Key = string(rune('t' + r.Intn(4)))
		case 5:
			x.N = r.Intn(6)
		case 6:
			x.N = most/2 + r.Intn(1+most/2)
		}
		if x.Kind == 2 {
			x.Data, x.Cost = bytes(r, r.Intn(1+size)), r.Intn(30)
			if r.Intn(3) == 0 {
				x.N = 1 + r.Intn(20)
			}
			for range r.Intn(4) {
				x.Tags = append(x.Tags, string(rune('t'+r.Intn(4))))
			}
		}
		out = append(out, x)
	}
	return out
}

func TestP24_4(t *testing.T) {
	r := rand.New(rand.NewSource(48))
	for range 60 {
		c := api.Config{Cap: 1 + r.Intn(200), Kind: r.Intn(4), Admit: r.Intn(3)}
		if c.Admit > 0 {
			c.Limit = 1 + r.Intn(60)
		}
		if c.Admit == api.Coin {
			c.Window, c.Grid = 1+r.Intn(30), []int{1 + r.Intn(10), 20 + r.Intn(50)}
		}
		tape, l := bytes(r, r.Intn(900)), calls(r, r.Intn(200), c.Cap, 40)
		b, e := run.Write(c, tape, l)
		d, s, m, f := run.Read(b)
		if e != api.OK || f != api.OK || !equalConfigs(c, d) || s != tape || !equalCalls(l, m) {
			t.Fatalf("what was written is not read: %d, %d", e, f)
		}
		if out, e := run.Run(b); e != api.OK || out != report(t, c, tape, l) {
			t.Fatalf("%v: %d", c, e)
		}
		// Whatever bytes there are, there is one report, or one error.
		for range 30 {
			changed := []byte(b)
			for range 1 + r.Intn(3) {
				changed[r.Intn(len(changed))] ^= byte(1 << r.Intn(8))
			}
			bent := string(changed[:r.Intn(len(changed)+1)])
			c, s, l, e := run.Read(bent)
			if again, f := run.Write(c, s, l); e == api.OK && (f != api.OK || again != bent) {
				t.Fatalf("%q is read as another one", bent)
			}
			if out, f := run.Run(bent); (out == "") != (f != api.OK) || (e != api.OK) != (f == api.ErrScript) || f != api.OK && f != api.ErrScript && f != api.ErrConfig {
				t.Fatalf("%q tells %q, %d", bent, out, f)
			}
		}
	}
}
