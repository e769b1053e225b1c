package snap_test

import (
	"fmt"
	"math"
	"math/rand"
	"slices"
	"strings"
	"testing"

	"linhay/api"
	"linhay/cache"
	"linhay/snap"
	"linhay/sum"
)

func equalEntries(a, b api.Entry) bool {
	return a.Key == b.Key && a.Data == b.Data && a.Cost == b.Cost && a.Freq == b.Freq && a.Used == b.Used &&
		a.Pri == b.Pri && a.Until == b.Until && slices.Equal(a.Tags, b.Tags)
}

func equalStates(a, b api.State) bool {
	x, y := a.Config, b.Config
	return x.Cap == y.Cap && x.Kind == y.Kind && x.Admit == y.Admit && x.Limit == y.Limit && x.Window == y.Window &&
		slices.Equal(x.Grid, y.Grid) && a.Tape == b.Tape && a.Now == b.Now && a.Seq == b.Seq && a.Level == b.Level &&
		a.Rank == b.Rank && slices.Equal(a.Window, b.Window) && a.Asked == b.Asked &&
		slices.EqualFunc(a.Entries, b.Entries, equalEntries) && a.Stats == b.Stats
}

// lay are the bytes of numbers and texts, as the chapters say them.
func lay(l ...any) string {
	var out []byte
	for _, x := range l {
		switch v := x.(type) {
		case int:
			out = append(out, lay(uint64(v))...)
		case uint64:
			for ; v > 127; v /= 128 {
				out = append(out, byte(v%128)+128)
			}
			out = append(out, byte(v))
		case string:
			out = append(append(out, lay(len(v))...), v...)
		}
	}
	return string(out)
}

// text is the text of a state, as the chapter says it.
func text(s api.State) string {
	c, x := s.Config, s.Stats
	out := lay(c.Cap, c.Kind, c.Admit, c.Limit, c.Window, len(c.Grid))
	for _, n := range c.Grid {
		out += lay(n)
	}
	out += lay(s.Tape.Bytes, s.Tape.At, s.Now, s.Seq, s.Level)
	for _, n := range append(s.Rank.Hits[:], s.Rank.Outs[:]...) {
		out += lay(n)
	}
	out += lay(len(s.Window))
	for _, m := range s.Window {
		out += lay(m.Key, m.Size, m.N)
	}
	out += lay(s.Asked, len(s.Entries))
	for _, e := range s.Entries {
		out += lay(e.Key, e.Data, e.Cost, e.Freq, e.Used, e.Pri, e.Until, len(e.Tags))
		for _, t := range e.Tags {
			out += lay(t)
		}
	}
	return out + lay(x.Hits, x.Misses, x.HitBytes, x.Puts, x.Refused, x.Outs, x.Expired)
}

// states are some that may be, of all kinds.
func states() []api.State {
	out := []api.State{
		{Config: api.Config{Cap: 1}},
		{
			Config: api.Config{Cap: 20, Kind: api.GDSF, Admit: api.Coin, Limit: 5, Window: 10, Grid: []int{1, 9, 1 << 16}},
			Tape:   api.Tape{Bytes: "0123456789", At: 2},
			Now:    7, Seq: 1 << 40, Level: 1<<60 - 1,
			Window: []api.Seen{{Key: "a", Size: 4096, N: 4}, {Key: "b\x00", Size: 1, N: 5}}, Asked: 9,
			Entries: []api.Entry{
				{Key: "a", Data: "\x0012345678\xff", Cost: 1 << 20, Freq: 1, Used: 1 << 40, Pri: 1 << 60, Until: 8, Tags: []string{"x", "y", "z"}},
				{Key: "b", Data: "0123456789", Freq: math.MaxUint64, Used: 1, Pri: math.MaxUint64, Until: 1 << 40},
			},
			Stats: api.Stats{Hits: math.MaxUint64, Misses: 1, HitBytes: 2, Puts: 3, Refused: 4, Outs: 5, Expired: 6},
		},
		{
			Config: api.Config{Cap: 1 << 16, Kind: api.LHD, Admit: api.Threshold, Limit: 4096}, Tape: api.Tape{Bytes: strings.Repeat("t", 1000)},
			Rank: api.Rank{Hits: [8]uint64{math.MaxUint64, 2, 3, 4, 5, 6, 7, 128}, Outs: [8]uint64{9, 8, 7, 6, 5, 4, 3, math.MaxUint64}},
		},
	}
	full := api.State{Config: api.Config{Cap: 1 << 16}, Seq: 64}
	for i := range 64 {
		full.Entries = append(full.Entries, api.Entry{Key: fmt.Sprintf("%02d", i), Data: strings.Repeat("d", 1024), Freq: 1, Used: i + 1})
	}
	return append(out, full)
}

func TestP23_1Write(t *testing.T) {
	for i, s := range states() {
		b, e := snap.Write(s)
		if e != api.OK || b != sum.Seal(text(s)) {
			t.Errorf("%d: %d, %q", i, e, b)
		}
	}
	wrong := []api.State{{}, {Config: api.Config{Cap: 1}, Seq: -1}, {Config: api.Config{Cap: 1}, Now: -1}, {Config: api.Config{Cap: 1}, Tape: api.Tape{At: 1}}, {Config: api.Config{Cap: 1}, Entries: []api.Entry{{}}}}
	for i, s := range wrong {
		if b, e := snap.Write(s); b != "" || e != api.ErrState {
			t.Errorf("%d: %d, %q", i, e, b)
		}
	}
}

func TestP23_1Read(t *testing.T) {
	for i, s := range states() {
		got, e := snap.Read(sum.Seal(text(s)))
		if e != api.OK || !equalStates(got, s) {
			t.Errorf("%d: %d, %v", i, e, got)
		}
	}
}

func TestP23_1ReadWrong(t *testing.T) {
	one := text(api.State{Config: api.Config{Cap: 1}})
	coin := states()[1]
	for i, b := range []string{
		"", "x", one, sum.Seal(""), sum.Seal("\x00"), sum.Seal(one) + "\x00",
		sum.Seal(one + "\x00"),
		sum.Seal(one[:len(one)-1]),
		sum.Seal(one[:len(one)-1] + "\x80"),
		sum.Seal(one[:len(one)-1] + "\x80\x00"),
		sum.Seal("\x81\x00" + one[1:]),
		sum.Seal("\x00" + one[1:]),
		sum.Seal(lay(uint64(1<<63)) + one[1:]),
		sum.Seal(lay(uint64(math.MaxUint64)) + one[1:]),
		sum.Seal(lay(1, 0, 0, 0, 0, uint64(math.MaxUint64)) + one[6:]),
		sum.Seal(lay(1, 0, 0, 0, 0, 0, uint64(math.MaxUint64)) + one[7:]),
		sum.Seal(lay(1, 0, 0, 0, 0, 0, "", uint64(1<<63)) + one[8:]),
		sum.Seal(lay(1, 0, 0, 0, 0, 0, "", 0, 0, 0, 1) + one[11:]),
	} {
		if s, e := snap.Read(b); e != api.ErrState || !equalStates(s, api.State{}) {
			t.Errorf("%d: %d, %v", i, e, s)
		}
		c, e := snap.Load(b)
		if _, r := cache.Do(c, api.Call{Kind: api.CStats}); e != api.ErrState || r.Err != api.ErrConfig {
			t.Errorf("%d is loaded: %d", i, e)
		}
	}
	// Texts of states that may not be.
	for i, change := range []func(s *api.State){
		func(s *api.State) { s.Config.Cap = 19 },
		func(s *api.State) { s.Config.Grid = []int{9, 1} },
		func(s *api.State) { s.Tape.At = 3 },
		func(s *api.State) { s.Asked = 8 },
		func(s *api.State) { s.Level = 1 << 60 },
		func(s *api.State) { s.Rank.Outs[7] = 1 },
		func(s *api.State) { s.Window[0].Key = "c" },
		func(s *api.State) { s.Entries[0].Tags = []string{"y", "x"} },
		func(s *api.State) { s.Entries[0].Until = 7 },
	} {
		s := coin
		s.Window, s.Entries = slices.Clone(s.Window), slices.Clone(s.Entries)
		change(&s)
		if got, e := snap.Read(sum.Seal(text(s))); e != api.ErrState || !equalStates(got, api.State{}) {
			t.Errorf("%d: %d", i, e)
		}
	}
	// Each beginning of a text, sealed, and each of its bytes changed, is of no state, or of one that is written so.
	all := text(coin)
	for i := range len(all) {
		if _, e := snap.Read(sum.Seal(all[:i])); e != api.ErrState {
			t.Errorf("the first %d bytes are read", i)
		}
		for _, by := range []byte{1, 2, 128, 255} {
			changed := all[:i] + string([]byte{all[i] ^ by}) + all[i+1:]
			if s, e := snap.Read(sum.Seal(changed)); e == api.OK && text(s) != changed {
				t.Errorf("%q is read as %v", changed, s)
			}
		}
	}
}

func TestP23_2(t *testing.T) {
	for i, s := range states() {
		c, _ := cache.Of(s)
		b, e := snap.Save(c)
		if want, _ := snap.Write(s); e != api.OK || b != want {
			t.Errorf("%d: %d", i, e)
		}
		d, e := snap.Load(b)
		if e != api.OK || !equalStates(cache.Show(d), s) {
			t.Errorf("%d: %d", i, e)
		}
	}
	if b, e := snap.Save(cache.Cache{}); b != "" || e != api.ErrState {
		t.Errorf("no cache: %q, %d", b, e)
	}
}

func TestP23_3Seen(t *testing.T) {
	r := rand.New(rand.NewSource(46))
	for _, s := range states()[:2] {
		b, _ := snap.Write(s)
		for at := range 8 * len(b) {
			for _, by := range []uint32{1 << 31, r.Uint32() | 1<<31, 1<<32 - 1} {
				changed := []byte(b)
				for i := range 32 {
					if p := at + i; p < 8*len(b) && by>>(31-i)&1 == 1 {
						changed[p/8] ^= 1 << (7 - p%8)
					}
				}
				if got, e := snap.Read(string(changed)); e != api.ErrState || !equalStates(got, api.State{}) {
					t.Fatalf("changed at %d by %x, it is read", at, by)
				}
			}
		}
	}
}

func TestP23_3GoesOn(t *testing.T) {
	r := rand.New(rand.NewSource(47))
	for kind := range 4 {
		for admit := range 3 {
			config := api.Config{Cap: 60, Kind: kind, Admit: admit}
			if admit > 0 {
				config.Limit = 20
			}
			if admit == api.Coin {
				config.Window, config.Grid = 7, []int{3, 10, 50}
			}
			tape := make([]byte, 900)
			r.Read(tape)
			c, _ := cache.New(config, string(tape))
			for range 400 {
				x := api.Call{Kind: 1 + r.Intn(7), Key: string(rune('a' + r.Intn(9))), Cost: r.Intn(9), N: r.Intn(5)}
				x.Data = strings.Repeat(x.Key, 1+r.Intn(25))
				if r.Intn(2) == 0 {
					x.Tags = []string{string(rune('a' + r.Intn(9)))}
				}
				if x.Kind == api.CResize {
					x.N = 30 + r.Intn(60)
				}
				b, e := snap.Save(c)
				again, f := snap.Load(b)
				if e != api.OK || f != api.OK {
					t.Fatalf("saved, and loaded: %d, %d", e, f)
				}
				var one, other api.Reply
				c, one = cache.Do(c, x)
				again, other = cache.Do(again, x)
				same := one.Err == other.Err && one.Has == other.Has && one.Data == other.Data && slices.Equal(one.Outs, other.Outs) && one.Stats == other.Stats
				if !same || !equalStates(cache.Show(c), cache.Show(again)) {
					t.Fatalf("%v goes on otherwise: %v, %v", x, one, other)
				}
			}
		}
	}
}
