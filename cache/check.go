package cache

import (
	"slices"

	"linhay/api"
	"linhay/coin"
	"linhay/tape"
	"linhay/thing"
	"linhay/tune"
)

// within tells whether n is from low to high.
func within(n, low, high int) bool { return n >= low && n <= high }

// Check tells whether a state may be.
func Check(s api.State) bool {
	return coin.Check(s.Config) == api.OK &&
		within(s.Tape.At, 0, tape.Left(api.Tape{Bytes: s.Tape.Bytes})) &&
		within(s.Now, 0, api.MaxTime) && within(s.Seq, 0, api.MaxSeq) &&
		windowMay(s) && ranksMay(s) && entriesMay(s)
}

// windowMay tells whether what was asked for may be.
func windowMay(s api.State) bool {
	if s.Config.Admit != api.Coin {
		return len(s.Window) == 0 && s.Asked == 0
	}
	if !tune.Check(s.Window) {
		return false
	}
	all := 0
	for _, x := range s.Window {
		if !thing.Key(x.Key) {
			return false
		}
		all += x.N
	}
	return s.Asked == all && all < s.Config.Window
}

// ranksMay tells whether the level, all that is reckoned from it, and the counts may be.
func ranksMay(s api.State) bool {
	if s.Config.Kind != api.LHD && s.Rank != (api.Rank{}) {
		return false
	}
	if ranked(s.Config.Kind) {
		return s.Level < api.High && !slices.ContainsFunc(s.Entries, func(e api.Entry) bool { return e.Pri < s.Level })
	}
	return s.Level == 0 && !slices.ContainsFunc(s.Entries, func(e api.Entry) bool { return e.Pri != 0 })
}

// entryMay tells whether an entry may be, but for its rank, and for the other ones.
func entryMay(s api.State, e api.Entry) bool {
	told, err := thing.Tags(e.Tags)
	return thing.Key(e.Key) && within(len(e.Data), 1, api.MaxSize) && within(e.Cost, 0, api.MaxCost) &&
		e.Freq >= 1 && within(e.Used, 1, s.Seq) &&
		(e.Until == 0 || within(e.Until, s.Now+1, api.MaxTime)) &&
		err == api.OK && slices.Equal(told, e.Tags)
}

// entriesMay tells whether the entries may be, but for their ranks.
func entriesMay(s api.State) bool {
	if len(s.Entries) > api.MaxObjects {
		return false
	}
	bytes, seen := 0, map[int]bool{}
	for i, e := range s.Entries {
		if !entryMay(s, e) || seen[e.Used] || i > 0 && s.Entries[i-1].Key >= e.Key {
			return false
		}
		seen[e.Used] = true
		bytes += len(e.Data)
	}
	return bytes <= s.Config.Cap
}
