package levels_test

import (
	"fmt"
	"math"
	"slices"
	"testing"

	"gauger/api"
	"gauger/configs"
	"gauger/levels"
	"gauger/shape"
	"gauger/wide"
)

// plain is a level with a number for each key, and a fault, or none.
type plain struct {
	place levels.Place
	cells []int64
	fault string
}

// kind tells the kind of level that plain ones with this fault are.
func kind(fault string) levels.Kind[*plain] {
	var shared *plain
	count := func(c api.Config, level int) int { return int(min(shape.Keys(c, level), 1024)) }
	made := func(c api.Config, level int) (*plain, api.Errno) {
		if shape.Keys(c, level) == 0 && fault != "made of none" {
			if fault == "none made, but no error" {
				return nil, api.OK
			}
			return nil, api.ErrArg
		}
		p := &plain{levels.At(c, level), make([]int64, count(c, level)), fault}
		if fault == "made as one" && shared != nil && shared.place == p.place {
			return shared, api.OK
		}
		shared = p
		return p, api.OK
	}
	return levels.Kind[*plain]{New: made, Count: count}
}

func (p *plain) Config() api.Config { return p.place.Config }

func (p *plain) Level() int { return p.place.Level }

func (p *plain) conservative() bool { return p.place.Config.Mode == api.Conservative }

// refusal tells what the update of a key that is there answers.
func (p *plain) refusal(n, d int64) api.Errno {
	_, fits := wide.Plus(n, d)
	mode := p.conservative() && d < 0 && p.fault != "falls"
	switch {
	case !fits && mode && p.fault == "room ahead of the mode":
		return api.ErrOverflow
	case mode:
		return api.ErrMode
	case !fits && p.fault != "goes round":
		return api.ErrOverflow
	}
	return api.OK
}

func (p *plain) Check(key uint64, d int64) api.Errno {
	if key >= uint64(len(p.cells)) && p.fault != "any key" {
		if p.conservative() && d < 0 && p.fault == "the mode ahead of the key" {
			return api.ErrMode
		}
		return api.ErrKey
	}
	n := p.cells[key%uint64(len(p.cells))]
	if p.fault == "Check changes" {
		p.cells[key] = n + 1
	}
	if p.fault == "Check tells nothing" {
		return api.OK
	}
	return p.refusal(n, d)
}

func (p *plain) Update(key uint64, d int64) api.Errno {
	was := p.fault
	if was == "Check changes" || was == "Check tells nothing" {
		p.fault = ""
	}
	fails := p.Check(key, d)
	p.fault = was
	if fails == api.OK || p.fault == "changed by what it refuses" {
		p.cells[key%uint64(len(p.cells))] += d
	}
	return fails
}

func (p *plain) Point(key uint64) (int64, api.Errno) {
	if key >= uint64(len(p.cells)) {
		switch p.fault {
		case "a number beside an error":
			return 1, api.ErrKey
		case "tells of any key":
			return 0, api.OK
		}
		return 0, api.ErrKey
	}
	return p.cells[key], api.OK
}

func (p *plain) Cells() []int64 {
	if p.fault == "tells its own cells" {
		return p.cells
	}
	return slices.Clone(p.cells)
}

func (p *plain) Load(l []int64) bool {
	fewer, more := len(l) < len(p.cells), len(l) > len(p.cells)
	switch {
	case p.fault == "keeps what it loads" && !fewer && !more:
		p.cells = l
		return true
	case p.fault == "loads none" && len(l) == 0, p.fault == "loads nothing" && !fewer && !more:
		return true
	case fewer && p.fault != "loads fewer" || more && p.fault != "loads more":
		if p.fault == "loads what it refuses" {
			copy(p.cells, l)
		}
		return false
	case p.fault == "loads backwards":
		l = slices.Clone(l)
		slices.Reverse(l)
	}
	copy(p.cells, l)
	return true
}

func (p *plain) Copy() *plain {
	other := &plain{p.place, slices.Clone(p.cells), p.fault}
	switch p.fault {
	case "a copy shares":
		other.cells = p.cells
	case "a copy is empty":
		clear(other.cells)
	case "a copy is elsewhere":
		other.place.Config.Seed++
	}
	return other
}

// unlike tells whether the other one is refused for its place.
func (p *plain) unlike(o *plain) bool {
	if o == nil {
		return p.fault != "joins none"
	}
	a, b := p.place, o.place
	switch {
	case p.fault == "joins any seed":
		b.Config.Seed = a.Config.Seed
	case p.fault == "joins any level" && len(p.cells) == len(o.cells):
		b.Level, b.Config.Bits = a.Level, a.Config.Bits
	case p.fault == "joins any mode":
		b.Config.Mode = a.Config.Mode
	case p.fault == "joins any rows":
		b.Config.Rows = a.Config.Rows
	case p.fault == "joins not itself" && p == o:
		return true
	}
	return a != b
}

// taken tells whether what two cells come to is taken.
func (p *plain) taken(n int64, fits bool) bool {
	switch p.fault {
	case "joins what does not fit":
		return true
	case "comes to no greatest number":
		return fits && n != math.MaxInt64
	case "comes to no least number":
		return fits && n != math.MinInt64
	}
	return fits
}

// join puts each of the other's cells to that of its own.
func (p *plain) join(o *plain, put func(a, b int64) (int64, bool)) api.Errno {
	if p.unlike(o) {
		return api.ErrIncompatible
	}
	if o == nil {
		return api.OK
	}
	all := slices.Clone(p.cells)
	for i, b := range o.cells {
		n, fits := put(all[i], b)
		if !p.taken(n, fits) {
			if p.fault == "joins the first ones" {
				p.cells = all
			}
			return api.ErrOverflow
		}
		all[i] = n
		if p.fault == "joins one by one" {
			p.cells[i] = n
		}
	}
	if p.fault == "joins one alone" {
		copy(all[1:], p.cells[1:])
	}
	p.cells = all
	return api.OK
}

func (p *plain) Merge(o *plain) api.Errno {
	fails := p.join(o, wide.Plus)
	if fails == api.OK && p.fault == "takes over what it merges" && o != nil {
		o.cells = p.cells
	}
	return fails
}

func (p *plain) Subtract(o *plain) api.Errno {
	if p.conservative() && p.fault != "takes away in each mode" {
		if p.unlike(o) && p.fault != "the mode ahead of the place" {
			return api.ErrIncompatible
		}
		return api.ErrMode
	}
	return p.join(o, func(a, b int64) (int64, bool) {
		if p.fault == "takes away the other way round" {
			a, b = b, a
		}
		return wide.Minus(a, b)
	})
}

// faults has what is wrong with levels of a kind, and the trial that has to find it.
var faults = []struct{ fault, trial string }{
	{"made as one", "made apart"},
	{"any key", "absent keys"},
	{"the mode ahead of the key", "absent keys"},
	{"a number beside an error", "absent keys"},
	{"tells of any key", "absent keys"},
	{"changed by what it refuses", "absent keys"},
	{"changed by what it refuses", "refusals"},
	{"room ahead of the mode", "refusals"},
	{"falls", "refusals"},
	{"goes round", "refusals"},
	{"Check changes", "refusals"},
	{"Check tells nothing", "refusals"},
	{"loads none", "loading"},
	{"loads fewer", "loading"},
	{"loads more", "loading"},
	{"loads backwards", "loading"},
	{"loads what it refuses", "loading"},
	{"loads nothing", "loading"},
	{"keeps what it loads", "what was loaded"},
	{"tells its own cells", "what was told"},
	{"a copy shares", "copies"},
	{"a copy is empty", "copies"},
	{"a copy is elsewhere", "copies"},
	{"joins what does not fit", "joined at the edges"},
	{"joins the first ones", "joined at the edges"},
	{"joins one by one", "joined at the edges"},
	{"comes to no greatest number", "joined at the edges"},
	{"comes to no least number", "joined at the edges"},
	{"takes away in each mode", "joined at the edges"},
	{"joins one alone", "joined"},
	{"takes away the other way round", "joined"},
	{"takes away in each mode", "joined"},
	{"takes over what it merges", "joined"},
	{"joins none", "incompatible"},
	{"joins any seed", "incompatible"},
	{"joins any level", "incompatible"},
	{"joins any mode", "incompatible"},
	{"joins any rows", "incompatible"},
	{"the mode ahead of the place", "incompatible"},
	{"joins not itself", "with itself"},
	{"joins what does not fit", "with itself"},
	{"joins one by one", "with itself"},
	{"takes away in each mode", "with itself"},
	{"takes over what it merges", "joined apart"},
}

// told is a test that is told what is wrong, and keeps it.
type told struct {
	all []string
}

func (t *told) Helper() {}

func (t *told) Errorf(format string, args ...any) {
	t.all = append(t.all, fmt.Sprintf(format, args...))
}

// places tells some places with few keys, of each mode.
func places() []levels.Place {
	var all []levels.Place
	for _, mode := range configs.Modes() {
		for bits := 1; bits <= 5; bits++ {
			for level := range bits + 1 {
				all = append(all, levels.At(api.Config{Bits: bits, Rows: 2, Width: 3, Mode: mode, Seed: uint64(bits)}, level))
			}
		}
	}
	return all
}

// found tells what the trials of this name find wrong with levels of this fault, and how
// many trials of this name there are.
func found(fault, name string) ([]string, int) {
	wrong, count := &told{}, 0
	for _, x := range kind(fault).Trials() {
		if x.Name == name {
			x.Try(wrong, places())
			count++
		}
	}
	return wrong.all, count
}

func TestSound(t *testing.T) {
	for _, x := range kind("").Trials() {
		wrong, count := found("", x.Name)
		if len(wrong) > 0 || count != 1 {
			t.Errorf("%d trials %q find wrong: %v", count, x.Name, wrong)
		}
	}
}

func TestFaults(t *testing.T) {
	names := map[string]bool{}
	for _, x := range faults {
		if wrong, count := found(x.fault, x.trial); len(wrong) == 0 || count != 1 {
			t.Errorf("%d trials %q do not find: %s", count, x.trial, x.fault)
		}
		names[x.trial] = true
	}
	for _, x := range kind("").Trials() {
		if !names[x.Name] {
			t.Errorf("the trial %q has nothing to find", x.Name)
		}
	}
}

func TestNoneMade(t *testing.T) {
	for fault, sound := range map[string]bool{"": true, "made of none": false, "none made, but no error": false} {
		wrong := &told{}
		kind(fault).NoneMade(wrong, levels.Nowhere())
		if (len(wrong.all) == 0) != sound {
			t.Errorf("of the fault %q is found: %v", fault, wrong.all)
		}
	}
	wrong := &told{}
	if kind("").NoneMade(wrong, places()); len(wrong.all) != len(places()) {
		t.Errorf("of %d places that are there is found: %v", len(places()), wrong.all)
	}
}
