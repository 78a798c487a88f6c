// Package levels has the trials that the tests put each kind of level to: what a level
// tells of itself, and how it is updated, loaded, copied, and put together with others.
package levels

import (
	"math"
	"slices"

	"gauger/api"
	"gauger/configs"
	"gauger/strewn"
)

const (
	lowest  = math.MinInt64
	highest = math.MaxInt64
)

// Tester is the test that is told what is wrong.
type Tester interface {
	Helper()
	Errorf(format string, args ...any)
}

// Level is a level of any kind.
type Level interface {
	Config() api.Config
	Level() int
	Check(key uint64, d int64) api.Errno
	Update(key uint64, d int64) api.Errno
	Point(key uint64) (int64, api.Errno)
	Cells() []int64
	Load(l []int64) bool
}

// Of is a level of the kind L, with what is done to levels of that kind alone.
type Of[L any] interface {
	comparable
	Level
	Copy() L
	Merge(other L) api.Errno
	Subtract(other L) api.Errno
}

// Place is a level of a config.
type Place struct {
	Config api.Config
	Level  int
}

// At tells the place of a level of the config.
func At(c api.Config, level int) Place {
	return Place{Config: c, Level: level}
}

// Kind is a kind of level: how one is made, and how many cells it has then.
type Kind[L Of[L]] struct {
	New   func(c api.Config, level int) (L, api.Errno)
	Count func(c api.Config, level int) int
}

// Full tells as many numbers as the level has cells, the given ones by turns.
func (k Kind[L]) Full(p Place, turns ...int64) []int64 {
	count := k.Count(p.Config, p.Level)
	return slices.Repeat(turns, count)[:count]
}

// Strewn tells as many strewn numbers as the level has cells, from the given one on.
func (k Kind[L]) Strewn(p Place, from int, shift uint) []int64 {
	return strewn.Signed(from, k.Count(p.Config, p.Level), shift)
}

// Filled tells the level with these cells; nil, if there is no such level, or it has not
// as many.
func (k Kind[L]) Filled(p Place, l ...int64) L {
	var none L
	made, fails := k.New(p.Config, p.Level)
	if fails != api.OK || !made.Load(l) {
		return none
	}
	return made
}

// Fed tells the level that was fed these updates; nil, if there is no such level, or it
// refuses one of them.
func (k Kind[L]) Fed(p Place, all []api.Update) L {
	var none L
	made, fails := k.New(p.Config, p.Level)
	if fails != api.OK {
		return none
	}
	for _, u := range all {
		if made.Update(u.Key, u.Delta) != api.OK {
			return none
		}
	}
	return made
}

// Edge is the number of a cell, and what it is updated by.
type Edge struct {
	N, D int64
}

// Edges tells sums at the ends of what fits, and one beyond.
func Edges() []Edge {
	return []Edge{
		{highest - 1, 1}, {highest, 1}, {highest - 1, 2}, {0, highest}, {1, highest}, {-1, highest}, {highest, highest},
		{lowest + 1, -1}, {lowest, -1}, {lowest + 1, -2}, {0, lowest}, {-1, lowest}, {1, lowest}, {lowest, lowest},
		{highest, 0}, {lowest, 0}, {lowest, highest}, {highest, lowest}, {1 << 62, 1 << 62}, {1<<62 - 1, 1 << 62},
	}
}

// Updates tells strewn updates of so many keys, less than 2^63 together.
func Updates(from int, keys uint64) []api.Update {
	var all []api.Update
	numbers := strewn.Numbers(from + 80)[from:]
	for i, d := range strewn.Signed(from+9, 80, 8) {
		all = append(all, api.Update{Key: numbers[i] % keys, Delta: d})
	}
	return all
}

// Rises tells updates of the same keys, none of which is below 0.
func Rises(from int, keys uint64) []api.Update {
	all := Updates(from, keys)
	for i := range all {
		all[i].Delta &= 1<<54 - 1
	}
	return all
}

// Less tells the updates by so much less that they are together not more than 2^55: what
// each level tells, whatever others have in its columns, fits together then.
func Less(all []api.Update) []api.Update {
	few := slices.Clone(all)
	for i := range few {
		few[i].Delta /= 1 << 7
	}
	return few
}

// Little tells the updates by numbers from -3 to 3, so small that many keys have the same.
func Little(all []api.Update) []api.Update {
	few := slices.Clone(all)
	for i := range few {
		few[i].Delta %= 4
	}
	return few
}

// Taken tells strewn updates of the place's keys that its mode takes.
func Taken(from int, p Place) []api.Update {
	keys := configs.Count(p.Config.Bits, p.Level)
	if p.Config.Mode == api.Conservative {
		return Rises(from, keys)
	}
	return Updates(from, keys)
}

// Has tells what the keys from lo to hi have by the updates.
func Has(all []api.Update, lo, hi uint64) int64 {
	n := int64(0)
	for _, u := range all {
		if lo <= u.Key && u.Key <= hi {
			n += u.Delta
		}
	}
	return n
}

// Sums tells what each of so many keys has by the updates.
func Sums(keys uint64, all []api.Update) []int64 {
	has := make([]int64, keys)
	for _, u := range all {
		has[u.Key] += u.Delta
	}
	return has
}
