package live_test

import (
	"fmt"
	"math"
	"math/rand/v2"
	"sync"
	"testing"
	"time"

	"pharos/api"
	"pharos/live"
	"pharos/state"
)

// P11.4

// took: how many hashes a root took.
func took(l *live.Live) int {
	before := l.Hashes()
	l.Root()
	return l.Hashes() - before
}

// settled is a live state whose root was asked for.
func settled(t *testing.T, n int) *live.Live {
	t.Helper()
	l := live.New(sample(n, 1))
	if l == nil {
		t.Fatal("New")
	}
	l.Root()
	return l
}

// TestHashesOfNothing: a root that is asked for again takes none, nor does what changes nothing.
func TestHashesOfNothing(t *testing.T) {
	for _, n := range counts() {
		l := settled(t, n)
		for range 3 {
			if got := took(l); got != 0 {
				t.Errorf("%d validators: Root asked again took %d hashes", n, got)
			}
		}
		x := l.State()
		l.Copy()
		for i := range n {
			l.Balance(i, x.Balances[i])
			l.Score(i, x.Scores[i])
			l.Flags(i, x.Previous[i], x.Current[i])
			l.Validator(i, x.Validators[i])
		}
		l.Balance(n, 1)
		l.Join(api.Validator{Effective: 1}, 1)
		if got := took(l); got != 0 {
			t.Errorf("%d validators: what stood there already took %d hashes", n, got)
		}
	}
	if l := live.New(api.State{}); took(l) != 0 || l.Hashes() != 0 {
		t.Errorf("no validators: %d hashes", l.Hashes())
	}
}

// TestHashesOfTheFirstRoot: all leaves are new.
func TestHashesOfTheFirstRoot(t *testing.T) {
	for _, n := range append(counts(), 1000) {
		l := live.New(sample(n, 1))
		first := l.Hashes()
		l.Root()
		// Each tree takes no more than its leaves and its depth.
		most := n + 2*((n+3)/4) + 2*((n+31)/32) + 66
		if first != 0 || l.Hashes() > most || n > 0 && l.Hashes() < 66 {
			t.Errorf("%d validators: %d hashes ahead of Root, %d behind it; want at most %d", n, first, l.Hashes(), most)
		}
	}
}

// TestHashesOfOneChange: the depth of its tree, or of its trees.
func TestHashesOfOneChange(t *testing.T) {
	for _, n := range []int{1, 4, 5, 32, 33, 1000} {
		l := settled(t, n)
		for _, i := range somePlaces(n) {
			for _, c := range []struct {
				call call
				want int
			}{
				{balance(i, 7), 14},
				{score(i, 7), 14},
				{flags(i, 100, 101), 22},
				{flags(i, 100, 102), 11},
				{flags(i, 103, 102), 11},
				{validator(i, member(n+77+i)), 16},
			} {
				if err := c.call.on(l); err != api.OK {
					t.Errorf("%s: error %d", c.call.name, err)
				}
				if got := took(l); got != c.want {
					t.Errorf("%d validators: %s took %d hashes; want %d", n, c.call.name, got, c.want)
				}
			}
		}
	}
}

// TestHashesOfOneValidator: several changes of one are no more than one of each kind; of several trees 66 in all.
func TestHashesOfOneValidator(t *testing.T) {
	l := settled(t, 100)
	for v := range 50 {
		l.Balance(57, uint64(v))
		l.Score(57, uint64(v))
		l.Flags(57, uint8(v), uint8(v))
		l.Validator(57, member(v))
	}
	if got := took(l); got != 66 {
		t.Errorf("two hundred changes of one validator took %d hashes; want 66", got)
	}
}

// TestHashesOfManyValidators: never more than the leaves and the depths together.
func TestHashesOfManyValidators(t *testing.T) {
	l := settled(t, 100)
	for i := range 100 {
		l.Balance(i, uint64(i))
		l.Score(i, uint64(i))
		l.Flags(i, uint8(i), uint8(2*i+50))
		l.Validator(i, member(i+1000))
	}
	// Rows of 50, 25, 13, 7, 4, 2, 1 and nine more; of 13, 7, 4, 2, 1 and nine more; of 2, 1 and nine more.
	if got, want := took(l), 111+2*36+2*12; got != want {
		t.Errorf("all changes of a hundred validators took %d hashes; want %d", got, want)
	}
	l.Balance(0, 5000)
	l.Balance(99, 5000)
	l.Score(50, 5000)
	// The last balance stands in the leaf 24: its way meets that of the leaf 0 in the fifth row.
	if got, want := took(l), 14+4+14; got != want {
		t.Errorf("three changes took %d hashes; want %d", got, want)
	}
}

// TestHashesOfJoin: 66 at most.
func TestHashesOfJoin(t *testing.T) {
	l := settled(t, 0)
	for i := range 100 {
		if err := l.Join(member(i), uint64(i+1)); err != api.OK {
			t.Fatalf("Join: error %d", err)
		}
		want := 16 + 14
		if i%4 == 0 {
			want += 14 // a score stands in a new leaf
		}
		if i%32 == 0 {
			want += 22
		}
		if got := took(l); got > 66 || got != want {
			t.Errorf("Join of the validator %d took %d hashes; want %d", i, got, want)
		}
	}
}

// TestHashesOfPut: what stays is remembered, and what was reckoned counts on, also where trees are planted anew.
func TestHashesOfPut(t *testing.T) {
	l := settled(t, 100)
	x := l.State()
	if l.Put(x) != api.OK || took(l) != 0 {
		t.Errorf("Put of the same state took hashes")
	}
	x.Slot, x.Mixes[3] = x.Slot+1, root(99)
	if l.Put(x) != api.OK || took(l) != 0 {
		t.Errorf("Put with another slot took hashes in the trees")
	}
	x.Balances[7] = 3
	if l.Put(x) != api.OK || took(l) != 14 {
		t.Errorf("Put with another balance didn't take 14 hashes")
	}
	x.Validators, x.Balances, x.Scores = append(x.Validators, member(5)), append(x.Balances, 5), append(x.Scores, 5)
	x.Previous, x.Current = append(x.Previous, 5), append(x.Current, 5)
	if l.Put(x) != api.OK || took(l) != 66 {
		t.Errorf("Put with one more validator didn't take 66 hashes")
	}
	before := l.Hashes()
	if l.Put(sample(99, 2)) != api.OK || l.Hashes() < before {
		t.Errorf("Put of fewer validators: %d hashes; there were %d", l.Hashes(), before)
	}
	if got := took(l); got > 99+2*25+2*4+66 || got < 66 {
		t.Errorf("Put of fewer validators took %d hashes", got)
	}
	before = l.Hashes()
	if l.Put(api.State{}) != api.OK || took(l) != 0 || l.Hashes() != before {
		t.Errorf("Put of no validators: %d hashes; there were %d", l.Hashes(), before)
	}
	l.Join(member(1), 1)
	if got := took(l); got != 66 || l.Hashes() != before+66 {
		t.Errorf("Join behind Put of no validators took %d hashes", got)
	}
}

// leastTime that one of several runs takes: the others may have been held up.
func leastTime(run func()) time.Duration {
	least := time.Duration(math.MaxInt64)
	for range 7 {
		start := time.Now()
		run()
		least = min(least, time.Since(start))
	}
	return least
}

// TestChangesCostLittle: the time fits what is counted, so that nothing is reckoned beside it.
func TestChangesCostLittle(t *testing.T) {
	x := sample(1<<13, 1)
	l := live.New(x)
	l.Root()
	whole := leastTime(func() { state.RootState(x) })
	v := 0
	one := leastTime(func() {
		v++
		l.Balance(v*977%(1<<13), uint64(v))
		l.Validator(v*977%(1<<13), member(v))
		l.Join(member(v), uint64(v))
		l.Root()
	})
	if one > whole/3 {
		t.Errorf("three changes and the root take %v, the whole %v", one, whole)
	}
}

// P11.5

func TestNil(t *testing.T) {
	var l *live.Live
	for range 2 {
		if !same(l.State(), api.State{}) || l.Root() != (api.Root{}) || l.Hashes() != 0 || l.Copy() != nil {
			t.Errorf("a nil one tells something")
		}
		for what, err := range map[string]api.Errno{
			"Put":                  l.Put(sample(2, 1)),
			"Put of the zero one":  l.Put(api.State{}),
			"Put of a wrong one":   l.Put(api.State{Slot: far}),
			"Balance":              l.Balance(0, 1),
			"Balance at -1":        l.Balance(-1, 1),
			"Score":                l.Score(0, 1),
			"Flags":                l.Flags(0, 1, 1),
			"Validator":            l.Validator(0, member(1)),
			"Join":                 l.Join(member(1), 1),
			"Join of a wrong one":  l.Join(api.Validator{Effective: 1}, 1),
			"Join of a great one":  l.Join(member(1), far),
			"Flags at 2^62":        l.Flags(1<<62, 0, 0),
			"Score at the last":    l.Score(1<<63-1, 0),
			"Validator far behind": l.Validator(-1<<63, member(1)),
		} {
			if err != api.ErrArg {
				t.Errorf("%s of a nil one: error %d", what, err)
			}
		}
	}
}

// TestCopy: the same state, no hashes, and nothing to be reckoned that was reckoned already.
func TestCopy(t *testing.T) {
	for _, n := range counts() {
		w := begin(t, sample(n, 1))
		w.ask(t, "New")
		c := w.copied()
		if c.l.Hashes() != 0 || took(c.l) != 0 {
			t.Errorf("%d validators: the copy has %d hashes", n, c.l.Hashes())
		}
		c.wantState(t, "Copy")
		c.ask(t, "Copy")
		for _, pair := range [][2]*twins{{w, c}, {c, w}} {
			one, other := pair[0], pair[1]
			root, hashes := other.l.Root(), other.l.Hashes()
			one.doAll(t, join(member(n+5), 6), balance(n, 7), score(0, 8), flags(0, 9, 10), validator(n/2, member(11)))
			other.wantState(t, "changes in the other one")
			if other.l.Root() != root || other.l.Hashes() != hashes {
				t.Errorf("%d validators: changes in one have an effect on the other's root or hashes", n)
			}
			one.put(t, sample(n/2, 3))
			one.ask(t, "Put")
			one.put(t, sample(n+1, 4))
			one.ask(t, "Put")
			other.wantState(t, "Put into the other one")
			other.ask(t, "Put into the other one")
		}
	}
}

// TestCopyWithOpenChanges: each of both reckons them for itself.
func TestCopyWithOpenChanges(t *testing.T) {
	for _, n := range []int{1, 4, 33} {
		for _, copyFirst := range []bool{true, false} {
			w := begin(t, sample(n, 1))
			w.ask(t, "New")
			w.do(t, balance(0, 4))
			w.do(t, join(member(7), 5))
			c := w.copied()
			if copyFirst {
				c.ask(t, "Copy")
			}
			w.do(t, balance(0, 6))
			w.ask(t, "Copy and Balance")
			c.wantState(t, "Copy")
			c.ask(t, "Copy")
			c.do(t, balance(n, 1<<57-1))
			c.do(t, join(member(1), 2))
			c.ask(t, "the copy's changes")
			w.doAll(t, balance(n, 9), join(member(2), 3))
		}
	}
}

// TestCopiesKeepTheirOwnSum of balances.
func TestCopiesKeepTheirOwnSum(t *testing.T) {
	x := sample(2, 1)
	x.Balances[0], x.Balances[1] = 1<<56, 1<<55
	w := begin(t, x)
	c := w.copied()
	w.doAll(t, balance(1, 1<<56), balance(0, 1<<56+1), join(member(1), 1))
	c.doAll(t, balance(1, 1<<56+1), balance(1, 0), balance(0, 1<<57), join(member(1), 1), balance(0, 1<<57-1), join(member(1), 1))
	w.doAll(t, join(member(1), 1), balance(1, 1<<56-1), join(member(1), 1))
}

// TestCopyOfAFelledOne: hashes ahead of a copy are left out, those of trees that are gone too.
func TestCopyOfAFelledOne(t *testing.T) {
	l := settled(t, 20)
	l.Put(sample(3, 2))
	l.Root()
	c := l.Copy()
	if c.Hashes() != 0 || took(c) != 0 {
		t.Errorf("the copy has %d hashes", c.Hashes())
	}
	c.Balance(0, 3)
	if got := took(c); got != 14 || c.Hashes() != 14 {
		t.Errorf("the copy has %d hashes, %d of one change", c.Hashes(), got)
	}
}

// TestCopiesOfCopies, changed in any order, are each what it would be alone.
func TestCopiesOfCopies(t *testing.T) {
	t.Parallel()
	r := rand.New(rand.NewPCG(11, 2))
	for _, n := range []int{0, 3, 31} {
		all := []*twins{begin(t, sample(n, 1))}
		for v := range 500 {
			w := all[r.IntN(len(all))]
			switch r.IntN(12) {
			case 0:
				w.put(t, sample(r.IntN(40), v))
			case 1, 2:
				w.ask(t, fmt.Sprint("the step ", v))
			default:
				w.do(t, chanceCall(r, len(w.x.Validators), v))
			}
			if v%50 == 49 {
				all = append(all, all[r.IntN(len(all))].copied())
			}
		}
		for _, w := range all {
			w.wantState(t, "the walk")
			w.ask(t, "the walk")
			w.ask(t, "the walk, again")
		}
	}
}

// TestLiveStatesSideBySide: copies share nothing that two goroutines could both touch (run with -race).
func TestLiveStatesSideBySide(t *testing.T) {
	w := begin(t, sample(33, 1))
	w.ask(t, "New")
	w.do(t, balance(3, 9))
	var wait sync.WaitGroup
	var copies []*twins
	for range 6 {
		copies = append(copies, w.copied())
	}
	for n, c := range copies {
		wait.Go(func() {
			for k := range 20 {
				for _, one := range []call{balance(k, uint64(n)), flags(k, uint8(n), uint8(k)), join(member(n*k), uint64(n))} {
					one.on(c.l)
					c.x, _ = one.makes(c.x)
				}
				if want, _ := state.RootState(c.x); c.l.Root() != want {
					t.Errorf("the copy %d behind the step %d: another root", n, k)
				}
			}
		})
	}
	wait.Wait()
	w.wantState(t, "the copies' changes")
	w.ask(t, "the copies' changes")
}
