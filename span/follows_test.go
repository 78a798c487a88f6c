package span_test

import (
	"maps"
	"slices"
	"testing"

	"gauger/api"
	"gauger/configs"
	"gauger/either"
	"gauger/levels"
	"gauger/pieces"
	"gauger/shape"
	"gauger/span"
	"gauger/stack"
	"gauger/stacks"
)

// fed is a stack, and the updates that it was fed.
type fed struct {
	s       *stack.Stack
	updates []api.Update
}

// feed tells the stack of the config that was fed the updates.
func feed(t *testing.T, c api.Config, updates []api.Update) fed {
	t.Helper()
	s := stacks.Fed(c, updates)
	if s == nil {
		t.Fatalf("%v is not fed", c)
	}
	return fed{s, updates}
}

// has tells what the keys of the span have by the updates.
func (f fed) has(x keys) int64 {
	return levels.Has(f.updates, x.lo, x.hi)
}

// spans tells spans of the stack, some of which begin or end with keys that were updated,
// or just beside them.
func (f fed) spans() []keys {
	bits := f.s.Config().Bits
	some := spans(bits)
	for i, u := range f.updates[:12] {
		other := f.updates[12+i].Key
		lo, hi := min(u.Key, other), max(u.Key, other)
		some = append(some, keys{lo, hi}, keys{lo, configs.Last(bits)}, keys{0, lo})
		if lo < hi {
			some = append(some, keys{lo + 1, hi}, keys{lo, hi - 1})
		}
	}
	return some
}

// holdRange holds Range of the span against the number.
func (f fed) holdRange(t *testing.T, x keys, want int64) {
	t.Helper()
	holdSum(t, f.s, x.lo, x.hi, want, api.OK)
}

// The chapter's example: of exact levels alone Range is just what the keys have, in each
// mode.
func TestExample(t *testing.T) {
	for _, mode := range configs.Modes() {
		c := api.Config{Bits: 3, Rows: 2, Width: 8, Mode: mode, Seed: 5}
		f := feed(t, c, []api.Update{{Key: 1, Delta: 5}, {Key: 6, Delta: 7}, {Key: 1, Delta: 2}, {Key: 3, Delta: 0}, {Key: 7, Delta: 1}})
		for _, x := range []struct {
			lo, hi uint64
			want   int64
		}{{0, 7, 15}, {1, 7, 15}, {2, 7, 8}, {0, 0, 0}, {1, 1, 7}, {2, 5, 0}, {1, 6, 14}, {0, 6, 14}, {7, 7, 1}, {6, 7, 8}, {3, 3, 0}} {
			f.holdRange(t, keys{x.lo, x.hi}, x.want)
		}
	}
}

// Where all levels are exact, Range is just what the keys have, in each mode, be it below 0
// or not.
func TestAllLevelsExact(t *testing.T) {
	below := map[int]int{}
	for i, c := range stacks.All() {
		if stacks.Exact(c) != stacks.AllExact {
			continue
		}
		f := feed(t, c, levels.Taken(i, levels.At(c, 0)))
		for _, x := range f.spans() {
			n := f.has(x)
			f.holdRange(t, x, n)
			if n < 0 {
				below[c.Mode]++
			}
		}
	}
	if below[api.Linear] < 100 || below[api.Median] < 100 || below[api.Conservative] > 0 {
		t.Errorf("spans that have less than 0, by mode: %v", below)
	}
}

// Of all keys Range is Total, be the levels' cells fed or loaded.
func TestTotal(t *testing.T) {
	for i, c := range stacks.All() {
		f := feed(t, c, levels.Taken(i, levels.At(c, 0)))
		f.holdRange(t, keys{0, configs.Last(c.Bits)}, f.s.Total())
		f.holdRange(t, keys{0, configs.Last(c.Bits)}, f.has(keys{0, configs.Last(c.Bits)}))
		for _, cells := range []stacks.Cells{stacks.Strewn(c, i, 0), stacks.Full(c, highest), stacks.Full(c, lowest), stacks.Full(c, 0)} {
			s := stacks.Filled(c, cells)
			holdSum(t, s, 0, configs.Last(c.Bits), s.Total(), api.OK)
		}
	}
}

// Where no key has less than 0, no span is told less than it has, in the modes Linear and
// Conservative; nor more than in the mode Linear, in the mode Conservative.
func TestNothingTooLittle(t *testing.T) {
	more := map[int]int{}
	for i, c := range stacks.All() {
		if c.Mode == api.Median {
			continue
		}
		f := feed(t, c, levels.Less(levels.Rises(i, configs.Count(c.Bits, 0))))
		c.Mode = api.Linear
		sums := feed(t, c, f.updates)
		for _, x := range f.spans() {
			n, e := span.Range(f.s, x.lo, x.hi)
			most, _ := span.Range(sums.s, x.lo, x.hi)
			if has := f.has(x); n < has || n > most || e != api.OK {
				t.Errorf("Range of %v from %d to %d: %d, %v, not from %d to %d", f.s.Config(), x.lo, x.hi, n, e, has, most)
			} else if n > has {
				more[f.s.Config().Mode]++
			}
		}
	}
	if more[api.Linear] < 1000 || more[api.Conservative] < 1000 {
		t.Errorf("too few spans that are told more than they have: %v", more)
	}
}

// shared tells of a piece, by the words of the chapter's section "What follows", what its
// keys have, and the least sum of what others have in its columns: where the level is
// exact, there are no others.
func (f fed) shared(p api.Piece) int64 {
	c, has := f.s.Config(), map[uint64]int64{}
	for _, u := range f.updates {
		has[configs.Above(u.Key, p.Level)] += u.Delta
	}
	own := has[p.Index]
	if either.KindOf(levels.At(c, p.Level)) == either.Array {
		return own
	}
	delete(has, p.Index)
	others := make([]int64, c.Rows)
	cols := shape.Columns(c, p.Level, p.Index)
	for key, n := range has {
		for row, col := range shape.Columns(c, p.Level, key) {
			if col == cols[row] {
				others[row] += n
			}
		}
	}
	return own + slices.Min(others)
}

// In the mode Linear Range is the sum, over the pieces, of what their keys have, and of the
// least sum of what others have in their columns, if it fits, be there keys that have less
// than 0 or not.
func TestLinear(t *testing.T) {
	answers := map[api.Errno]map[string]int{api.OK: {}, api.ErrOverflow: {}}
	for i, c := range stacks.All() {
		if c.Mode != api.Linear {
			continue
		}
		count := configs.Count(c.Bits, 0)
		for _, updates := range [][]api.Update{levels.Updates(i, count), levels.Rises(i+7, count), levels.Less(levels.Updates(i+3, count))} {
			f, told := feed(t, c, updates), map[api.Piece]int64{}
			for _, x := range f.spans() {
				parts := f.parts(x, told)
				hold(t, f.s, x.lo, x.hi, parts...)
				_, fails := sum(parts)
				answers[fails][stacks.Exact(c)]++
			}
		}
	}
	if all := answers[api.OK]; len(all) != 3 || slices.Min(slices.Collect(maps.Values(all))) < 500 {
		t.Errorf("too few spans of stacks of which these levels are exact: %v", all)
	}
	if all := answers[api.ErrOverflow]; all[stacks.AllExact] > 0 || all[stacks.SomeExact] < 50 || all[stacks.OneExact] < 50 {
		t.Errorf("too few, or too many, spans that do not fit: %v", all)
	}
}

// parts tells what the pieces of the span are told; what was reckoned of a piece is kept in
// told.
func (f fed) parts(x keys, told map[api.Piece]int64) []int64 {
	var parts []int64
	cover, _ := pieces.Cover(f.s.Config().Bits, x.lo, x.hi)
	for _, p := range cover {
		n, ok := told[p]
		if !ok {
			n = f.shared(p)
			told[p] = n
		}
		parts = append(parts, n)
	}
	return parts
}

// As long as all that was added is together not more than 2^55, each span fits, in each
// mode, however many keys share its columns.
func TestRoom(t *testing.T) {
	for i, c := range stacks.All() {
		for _, updates := range [][]api.Update{levels.Less(levels.Taken(i, levels.At(c, 0))), {{Key: 0, Delta: 1 << 55}}, {{Key: configs.Last(c.Bits), Delta: 1 << 55}}} {
			s := feed(t, c, updates).s
			for _, x := range spans(c.Bits) {
				if n, e := span.Range(s, x.lo, x.hi); e != api.OK {
					t.Errorf("Range of %v from %d to %d: %d, %v", c, x.lo, x.hi, n, e)
				}
			}
		}
	}
}
