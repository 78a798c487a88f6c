package stacks

import (
	"gauger/api"
	"gauger/configs"
	"gauger/levels"
)

// Answer is a kind of answer: that of a mode, where these levels are exact, with this error.
type Answer struct {
	Mode  int
	Exact string
	Fails api.Errno
}

// Answers counts answers of each kind.
type Answers map[Answer]int

// Add counts one of the answers of a stack of a right config.
func (all Answers) Add(c api.Config, fails api.Errno) {
	all[Answer{c.Mode, Exact(c), fails}]++
}

// HoldMany holds that of each mode, where each of these levels are exact, there are so many
// answers with this error.
func (all Answers) HoldMany(t levels.Tester, fails api.Errno, few int, exact ...string) {
	t.Helper()
	for _, mode := range configs.Modes() {
		for _, exact := range exact {
			if n := all[Answer{mode, exact, fails}]; n < few {
				t.Errorf("only %d answers with %v of the mode %d where %s are exact", n, fails, mode, exact)
			}
		}
	}
}
