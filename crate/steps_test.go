package crate_test

import (
	"fmt"
	"math"
	"strings"
	"testing"

	"crate/crate"
)

// cuts: Cut must answer OK.
func cuts(t *testing.T, s *crate.Store, n int, fails bool) {
	t.Helper()
	if e := s.Cut(n, fails); e != crate.OK {
		t.Errorf("Cut(%d, %v) = %d", n, fails, e)
	}
}

// extractsMore: Extract into a folder that is not there must answer this.
func extractsMore(t *testing.T, what string, s *crate.Store, archive string, want crate.Errno) {
	t.Helper()
	if e := s.Extract(fmt.Sprint("more ", len(s.Folders())), archive, anything); e != want {
		t.Errorf("%s: Extract = %d, want %d", what, e, want)
	}
}

// canMake: a store, with power, must have just so many steps left behind a
// Cut. An archive of nothing takes one.
func canMake(t *testing.T, what string, s *crate.Store, steps int) {
	t.Helper()
	for range steps {
		extractsMore(t, what, s, nothing, crate.OK)
	}
	extractsMore(t, what, s, nothing, crate.ErrStep)
}

// canMakeAny: a store must have power, and no Cut.
func canMakeAny(t *testing.T, what string, s *crate.Store) {
	t.Helper()
	for range 3 {
		extractsMore(t, what, s, archiveOf(ofSize(999)), crate.OK)
	}
}

// ofSize is a plain file of so many bytes.
func ofSize(size int) item {
	text := ""
	for i := range size {
		text += string(rune('a' + i%26))
	}
	return stored(fmt.Sprint("of", size), text)
}

// stepped are archives, and how many steps each of them takes.
var stepped = []struct {
	name  string
	items []item
	steps int
}{
	{"nothing", nil, 1},
	{"a folder", namesOf("a/"), 2},
	{"three folders by one name", namesOf("a/b/c/"), 4},
	{"three folders by their names", namesOf("a/b/c/", "a/", "a/b/"), 4},
	{"0 bytes", []item{ofSize(0)}, 2},
	{"1 byte", []item{ofSize(1)}, 3},
	{"15 bytes", []item{ofSize(15)}, 3},
	{"16 bytes", []item{ofSize(16)}, 3},
	{"17 bytes", []item{ofSize(17)}, 4},
	{"31 bytes", []item{ofSize(31)}, 4},
	{"32 bytes", []item{ofSize(32)}, 4},
	{"33 bytes", []item{ofSize(33)}, 5},
	{"400 bytes", []item{ofSize(400)}, 27},
	{"17 bytes that are packed", []item{inFixed("f", strings.Repeat("x", 17))}, 4},
	{"0 bytes that are packed", []item{inFixed("f", "")}, 2},
	{"a file in a folder", []item{stored("a/b", "data")}, 4},
	{"a file and its folder", []item{stored("a/b", "data"), stored("a/", "")}, 4},
	{"files of all sizes", []item{ofSize(0), ofSize(1), ofSize(15), ofSize(16), ofSize(17), ofSize(32)}, 14},
	{"files in folders", []item{stored("z/y/x", strings.Repeat("x", 16)), stored("a", "1"), stored("z/b", strings.Repeat("b", 17))}, 10},
}

// TestCutAtEachStep, from none to one more than is needed.
func TestCutAtEachStep(t *testing.T) {
	for _, c := range stepped {
		archive := archiveOf(c.items...)
		files, _ := crate.Unpack(archive, anything)
		for n := range c.steps + 2 {
			for _, fails := range []bool{true, false} {
				what := fmt.Sprintf("%s, Cut(%d, %v)", c.name, n, fails)
				s := crate.NewStore()
				extracts(t, s, "old", mixed, crate.OK)
				cuts(t, s, n, fails)
				if n >= c.steps {
					extracts(t, s, "new", archive, crate.OK)
					shows(t, s, "new", "old")
					holds(t, s, "new", files...)
					canMake(t, what, s, n-c.steps)
				} else {
					extracts(t, s, "new", archive, crate.ErrStep)
					shows(t, s, "old")
					lacks(t, s, "new")
				}
				holds(t, s, "old", told...)
				if fails {
					canMakeAny(t, what, s)
				} else {
					hasNoPower(t, what, s)
				}
			}
		}
	}
}

// hasNoPower: a store makes no step till Boot, and shows what it did. Behind
// that, it has power and no Cut.
func hasNoPower(t *testing.T, what string, s *crate.Store) {
	t.Helper()
	before := contents(t, s)
	for _, folder := range []string{"new", "more", "old", "", "new/", strings.Repeat("x", 61)} {
		for _, archive := range []string{nothing, mixed, "", "x", wrong} {
			if e := s.Extract(folder, archive, crate.Quota{}); e != crate.ErrStep {
				t.Errorf("%s: without power Extract(%q) = %d", what, folder, e)
			}
		}
	}
	staysAs(t, what+", without power", s, before)
	s.Boot()
	staysAs(t, what+", behind Boot", s, before)
	canMakeAny(t, what+", behind Boot", s)
}

// TestNothingIsLeftBeside: what was begun and not shown is in no later folder.
func TestNothingIsLeftBeside(t *testing.T) {
	for n := range stepsFor(told) {
		for _, fails := range []bool{true, false} {
			s := crate.NewStore()
			cuts(t, s, n, fails)
			extracts(t, s, "a", mixed, crate.ErrStep)
			if !fails {
				s.Boot()
			}
			shows(t, s)
			extracts(t, s, "b", archiveOf(stored("d/b", "data")), crate.OK)
			extracts(t, s, "a", archiveOf(stored("d/a", "short")), crate.OK)
			extracts(t, s, "c", nothing, crate.OK)
			holds(t, s, "a", file("d/", ""), file("d/a", "short"))
			holds(t, s, "b", file("d/", ""), file("d/b", "data"))
			holds(t, s, "c")
		}
	}
}

// TestStepsGoOnOverExtracts, and those that are refused take none.
func TestStepsGoOnOverExtracts(t *testing.T) {
	four := archiveOf(stored("a", strings.Repeat("x", 17)))
	for _, fails := range []bool{true, false} {
		s := crate.NewStore()
		cuts(t, s, 11, fails)
		extracts(t, s, "first", four, crate.OK)
		extracts(t, s, "first", four, crate.ErrTwice)
		extracts(t, s, "a/b", four, crate.ErrArg)
		extracts(t, s, "second", "x", crate.ErrEnd)
		extracts(t, s, "second", wrong, crate.ErrSum)
		if e := s.Extract("second", four, crate.Quota{}); e != crate.ErrQuota {
			t.Errorf("Extract of what is not allowed = %d", e)
		}
		s.Folders()
		s.Files("first")
		extracts(t, s, "second", four, crate.OK)
		extracts(t, s, "third", four, crate.ErrStep)
		shows(t, s, "first", "second")
		if fails {
			canMakeAny(t, "behind a step that fails", s)
		} else {
			hasNoPower(t, "over three Extracts", s)
		}
	}
}

// TestCutForgetsTheOneAhead, whatever that said.
func TestCutForgetsTheOneAhead(t *testing.T) {
	for _, first := range []int{0, 1, 3, 9, math.MaxInt} {
		for _, n := range []int{0, 1, 5, 8} {
			for _, fails := range []bool{true, false} {
				what := fmt.Sprintf("Cut(%d, %v), then Cut(%d, %v)", first, !fails, n, fails)
				s := crate.NewStore()
				cuts(t, s, first, !fails)
				cuts(t, s, n, fails)
				canMake(t, what, s, n)
				if fails {
					canMakeAny(t, what, s)
				} else {
					hasNoPower(t, what, s)
				}
			}
		}
	}
	s := crate.NewStore()
	cuts(t, s, 2, true)
	extracts(t, s, "a", nothing, crate.OK)
	cuts(t, s, 2, true)
	canMake(t, "a Cut between two steps", s, 2)
}

func TestCutBelowNothing(t *testing.T) {
	for _, n := range []int{-1, -2, -1 << 32, math.MinInt} {
		for _, fails := range []bool{true, false} {
			s := crate.NewStore()
			refused := func() {
				if e := s.Cut(n, fails); e != crate.ErrArg {
					t.Errorf("Cut(%d, %v) = %d", n, fails, e)
				}
			}
			refused()
			canMakeAny(t, "a Cut that is wrong", s)
			cuts(t, s, 2, !fails)
			refused()
			canMake(t, "a Cut ahead of one that is wrong", s, 2)
			if fails { // so the one that holds does not
				refused()
				hasNoPower(t, "a Cut ahead of one that is wrong", s)
			} else {
				canMakeAny(t, "a step failed", s)
			}
		}
	}
}

func TestCutFarOff(t *testing.T) {
	for _, fails := range []bool{true, false} {
		s := crate.NewStore()
		cuts(t, s, math.MaxInt, fails)
		canMakeAny(t, "a Cut far off", s)
	}
}

func TestBootWithPower(t *testing.T) {
	s := crate.NewStore()
	s.Boot()
	shows(t, s)
	extracts(t, s, "a", mixed, crate.OK)
	before := contents(t, s)
	s.Boot()
	s.Boot()
	staysAs(t, "behind Boot", s, before)
	for _, fails := range []bool{true, false} {
		for _, n := range []int{0, 1, 3} {
			cuts(t, s, n, fails)
			s.Boot()
			staysAs(t, "behind Cut and Boot", s, before)
			canMakeAny(t, fmt.Sprint("behind Cut and Boot ", n, fails), s)
			before = contents(t, s)
		}
	}
	cuts(t, s, 2, true)
	extracts(t, s, "one step", nothing, crate.OK)
	s.Boot()
	canMakeAny(t, "behind a Cut that was begun, and Boot", s)
}

// TestCutWithoutPower gives none, and Boot forgets it.
func TestCutWithoutPower(t *testing.T) {
	for _, fails := range []bool{true, false} {
		for _, n := range []int{0, 1, 100} {
			s := crate.NewStore()
			extracts(t, s, "a", mixed, crate.OK)
			cuts(t, s, 0, false)
			extracts(t, s, "b", mixed, crate.ErrStep)
			cuts(t, s, n, fails)
			extracts(t, s, "b", mixed, crate.ErrStep)
			extracts(t, s, "b", nothing, crate.ErrStep)
			shows(t, s, "a")
			hasNoPower(t, fmt.Sprintf("Cut(%d, %v) without power", n, fails), s)
		}
	}
}

// TestPowerGoesAgain, behind each Boot at a Cut of its own.
func TestPowerGoesAgain(t *testing.T) {
	s := crate.NewStore()
	for n := range 5 {
		cuts(t, s, n, false)
		canMake(t, fmt.Sprint("round ", n, " "), s, n)
		extracts(t, s, "old", "x", crate.ErrStep)
		s.Boot()
		extracts(t, s, fmt.Sprint("round", n), mixed, crate.OK)
	}
	cuts(t, s, 0, true)
	canMake(t, "fails", s, 0)
	canMakeAny(t, "behind a step that failed", s)
}

// TestPowerGoesOnlyAtAStep: as long as none is asked for, there is power.
func TestPowerGoesOnlyAtAStep(t *testing.T) {
	s := crate.NewStore()
	cuts(t, s, 1, false)
	extracts(t, s, "a", nothing, crate.OK)
	extracts(t, s, "a", nothing, crate.ErrTwice)
	extracts(t, s, "", nothing, crate.ErrArg)
	extracts(t, s, "b", "x", crate.ErrEnd)
	cuts(t, s, 1, false)
	extracts(t, s, "b", nothing, crate.OK)
	extracts(t, s, "c", nothing, crate.ErrStep)
	extracts(t, s, "a", nothing, crate.ErrStep)
	shows(t, s, "a", "b")
}
