package run_test

import (
	"math"
	"math/rand"
	"reflect"
	"testing"

	"linhay/api"
	"linhay/arena"
	"linhay/cache"
	"linhay/class"
	"linhay/coin"
	"linhay/expiry"
	"linhay/expo"
	"linhay/fixed"
	"linhay/gds"
	"linhay/heap"
	"linhay/lhd"
	"linhay/list"
	"linhay/pack"
	"linhay/ratio"
	"linhay/run"
	"linhay/snap"
	"linhay/store"
	"linhay/sum"
	"linhay/table"
	"linhay/tags"
	"linhay/tape"
	"linhay/thing"
	"linhay/tune"
	"linhay/wide"
	"linhay/word"
)

// listed are all calls that the chapters list.
func listed() []any {
	return []any{
		word.Add, word.Sub, word.Mul, word.Plus, word.Times, word.Shl, word.Shr, word.Of, word.Int,
		wide.Of, wide.Mul, wide.Add, wide.Sub, wide.Cmp, wide.Div, wide.Shr,
		ratio.Cmp, ratio.Least, ratio.Floor, ratio.Ceil, ratio.Near,
		fixed.Of, fixed.Mul, fixed.Div, fixed.Whole, fixed.Part, fixed.Mix, fixed.Sum,
		expo.Of, expo.Ratio, expo.Below,
		sum.Of, sum.Bytes, sum.Seal, sum.Open,
		pack.Size, pack.Put, pack.Take, pack.Text, pack.TakeText, pack.Texts, pack.TakeTexts,
		tape.Draw, tape.Pick, tape.Some, tape.Left,
		thing.Key, thing.Tags, thing.Hash, thing.Home,
		class.Bytes, class.Slots, class.Fit, class.Cut, class.Room,
		arena.New, arena.Check, arena.Take, arena.Free, arena.Has, arena.Taken, arena.Held,
		store.New, store.Check, store.Put, store.Get, store.Drop, store.Pack,
		table.New, table.Check, table.Get, table.Put, table.Del, table.Keys,
		heap.Check, heap.Less, heap.Set, heap.Drop, heap.Find, heap.Min, heap.Sorted,
		list.New, list.Of, list.Order, list.Touch, list.Drop, list.Last,
		tags.Check, tags.Add, tags.Drop, tags.Of, tags.Tags,
		expiry.Check, expiry.Set, expiry.Drop, expiry.Tick, expiry.When, expiry.Next,
		gds.Weight, gds.Renew, gds.Run, gds.Paid,
		lhd.Age, lhd.Hit, lhd.Out, lhd.Fade, lhd.Density, lhd.Victim,
		coin.Check, coin.Grid, coin.Chance, coin.Admit,
		tune.Check, tune.Note, tune.Part, tune.Fill, tune.Time, tune.Score, tune.Best,
		cache.New, cache.Do, cache.Show, cache.Check, cache.Of,
		snap.Write, snap.Read, snap.Save, snap.Load,
		run.Check, run.Write, run.Read, run.Tell, run.Run,
	}
}

// whole is some number, more often one near an edge of the document.
func whole(r *rand.Rand) int64 {
	edges := []int64{0, 0, 1, 1, 2, 3, 5, 7, 8, 16, 63, 64, 96, 128, 200, 512, 1000, 4096, 1 << 16, 1 << 20, 1 << 32, 1 << 40, 1 << 60, math.MaxInt64, math.MinInt64}
	n := edges[r.Intn(len(edges))]
	return n + int64(r.Intn(3)) - 1
}

// some is some value of a type, hand-made.
func some(r *rand.Rand, t reflect.Type) reflect.Value {
	out := reflect.New(t).Elem()
	switch {
	case t == reflect.TypeFor[cache.Cache]():
		if r.Intn(4) > 0 {
			c, _ := cache.New(config(r, r.Intn(4), r.Intn(3), 100), bytes(r, r.Intn(30)))
			for _, x := range calls(r, r.Intn(8), 100, 40) {
				c, _ = cache.Do(c, x)
			}
			out.Set(reflect.ValueOf(c))
		}
	case t.Kind() == reflect.Bool:
		out.SetBool(r.Intn(2) == 0)
	case out.CanInt():
		out.SetInt(whole(r))
	case out.CanUint():
		out.SetUint(uint64(whole(r)))
	case t.Kind() == reflect.String:
		out.SetString(bytes(r, []int{0, 1, 2, 8, 9, 16, 17, 40, 512, 1024}[r.Intn(10)]))
	case t.Kind() == reflect.Slice:
		n := []int{0, 1, 2, 3, 5}[r.Intn(5)]
		out.Set(reflect.MakeSlice(t, n, n+r.Intn(3)))
		fallthrough
	case t.Kind() == reflect.Array:
		for i := range out.Len() {
			out.Index(i).Set(some(r, t.Elem()))
		}
	case t.Kind() == reflect.Struct:
		for i := range t.NumField() {
			out.Field(i).Set(some(r, t.Field(i).Type))
		}
	}
	return out
}

// arguments are some of a call; those of one seed are alike.
func arguments(seed int64, t reflect.Type) []reflect.Value {
	r := rand.New(rand.NewSource(seed))
	var out []reflect.Value
	for i := range t.NumIn() {
		out = append(out, some(r, t.In(i)))
	}
	return out
}

// done calls f, and tells what it answers.
func done(f reflect.Value, in []reflect.Value) []any {
	call := f.Call
	if f.Type().IsVariadic() {
		call = f.CallSlice
	}
	return values(call(in))
}

func values(l []reflect.Value) []any {
	var out []any
	for _, v := range l {
		out = append(out, v.Interface())
	}
	return out
}

// spoil writes over all lists of what was answered.
func spoil(v reflect.Value) {
	switch v.Kind() {
	case reflect.Slice:
		for i := range v.Len() {
			spoil(v.Index(i))
			v.Index(i).SetZero()
		}
	case reflect.Struct:
		if v.Type() == reflect.TypeFor[cache.Cache]() {
			return
		}
		for i := range v.NumField() {
			spoil(v.Field(i))
		}
	}
}

// R1, R3, R4: no call panics; none changes what was handed in; the answer is the same again, and shares no memory with it.
func TestRules(t *testing.T) {
	for i, call := range listed() {
		f := reflect.ValueOf(call)
		for seed := range int64(400) {
			seed += int64(1000 * i)
			in, kept := arguments(seed, f.Type()), arguments(seed, f.Type())
			out, again := done(f, in), done(f, kept)
			if !reflect.DeepEqual(out, again) {
				t.Fatalf("the call %d, %v: %v, and then %v", i, values(in), out, again)
			}
			for _, x := range out {
				spoil(reflect.ValueOf(x))
			}
			if fresh := arguments(seed, f.Type()); !reflect.DeepEqual(values(in), values(fresh)) {
				t.Fatalf("the call %d changes %v", i, values(fresh))
			}
		}
	}
}

// R2: beside an error all is empty, where a chapter does not say that what was handed in is told.
func TestRuleErrors(t *testing.T) {
	for i, call := range []any{
		word.Plus, word.Times, wide.Div, ratio.Cmp, ratio.Floor, ratio.Ceil, ratio.Near, fixed.Of, fixed.Div,
		pack.Take, pack.TakeText, pack.TakeTexts, thing.Tags, class.Cut, arena.New, store.New, store.Get,
		gds.Run, cache.New, cache.Of, snap.Write, snap.Read, snap.Save, snap.Load, run.Write, run.Read, run.Run,
	} {
		f := reflect.ValueOf(call)
		for seed := range int64(400) {
			out := done(f, arguments(seed, f.Type()))
			last := len(out) - 1
			if out[last] == api.OK {
				continue
			}
			for _, x := range out[:last] {
				if v := reflect.ValueOf(x); !v.IsZero() && !(v.Kind() == reflect.Slice && v.Len() == 0) {
					t.Fatalf("the call %d tells %v beside %v", i, x, out[last])
				}
			}
		}
	}
}
