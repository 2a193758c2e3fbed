package just_test

import (
	"fmt"
	"math/rand/v2"
	"slices"
	"sync"
	"testing"

	"pharos/api"
	"pharos/just"
	"pharos/state"
)

// What is handed in stays, and what is answered is new memory.

// answers of one round of all calls.
type answers struct {
	Now, Before  []uint64
	Weigh        api.State
	Justify      api.State
	ErrorsOfBoth [2]api.Errno
}

// given to all calls of one round.
type given struct {
	X                      api.State
	All, Previous, Current uint64
}

func askAll(g given) answers {
	var a answers
	a.Now, _ = just.Unslashed(g.X, 1, g.X.Slot/4)
	a.Before, _ = just.Unslashed(g.X, 1, g.X.Slot/4-1)
	a.Weigh, a.ErrorsOfBoth[0] = just.Weigh(g.X, g.All, g.Previous, g.Current)
	a.Justify, a.ErrorsOfBoth[1] = just.Justify(g.X)
	return a
}

// text of the answers without the room behind their lists' ends.
func (a answers) text() string { return fmt.Sprint(a) }

// rounds: states of all kinds, at an epoch's end and not, right and not. Their lists have room behind their ends.
func rounds(t *testing.T) map[string]given {
	t.Helper()
	all := map[string]given{"too heavy": {stateOf(weighing{slot: 103, bits: "xxxx"}), heaviest + 1, 0, 0}}
	for _, slot := range []uint64{0, 3, 7, 11, 102, 103} {
		for what, x := range map[string]api.State{
			"nobody": withValidators(slot), "the zero state, but for its slot": {Slot: slot}, "some": withFlags(slot, "TT.F", "TTF.", members(4, full)...), "nobody attests": withFlags(slot, "....", "....", members(4, full)...),
			"many": withValidators(slot, members(200, full)...),
		} {
			all[fmt.Sprintf("%s, slot %d", what, slot)] = given{x, 3, 2, 2}
			all[fmt.Sprintf("%s, slot %d, nothing is enough", what, slot)] = given{x, 3, 1, 1}
		}
	}
	for what, x := range notRight(t, withValidators(103, members(16, full)...)) {
		all[what] = given{x, 3, 2, 2}
	}
	return all
}

func TestWhatIsHandedInStays(t *testing.T) {
	for what, g := range rounds(t) {
		before := whole(&g)
		one, two := askAll(g), askAll(g)
		if whole(&g) != before {
			t.Errorf("%s: what was handed in was changed, or its room", what)
		}
		if one.text() != two.text() {
			t.Errorf("%s: asked again, other answers", what)
		}
	}
}

// TestAnswersAreNewMemory: what the caller does with an answer changes neither what was handed in nor another answer, and the other way round.
func TestAnswersAreNewMemory(t *testing.T) {
	for what, g := range rounds(t) {
		first, second := askAll(g), askAll(g)
		before, told := whole(&g), second.text()
		spoil(&first)
		first.Now, first.Before = append(first.Now, 7), append(first.Before, 7)
		if whole(&g) != before {
			t.Errorf("%s: an answer shares memory with what was handed in", what)
		}
		if second.text() != told {
			t.Errorf("%s: two answers share memory", what)
		}
		if askAll(g).text() != told {
			t.Errorf("%s: other answers, once one was changed by the caller", what)
		}
		spoil(&g)
		if second.text() != told {
			t.Errorf("%s: an answer hangs on what was handed in, later on", what)
		}
	}
}

// TestListsOfOneAnswer share no memory with each other.
func TestListsOfOneAnswer(t *testing.T) {
	for _, slot := range []uint64{3, 7, 11, 103} {
		x := withValidators(slot, members(10, full)...)
		x.Balances = append(make([]uint64, 0, 16), slices.Repeat([]uint64{7 * gwei}, 10)...)
		x.Previous = make([]uint8, 10, 16)
		x.Scores, x.Current = x.Balances, x.Previous // as they may be handed in
		what := fmt.Sprint("slot ", slot)
		for _, y := range []api.State{wantWeigh(t, what, x, 3, 2, 2), wantWeigh(t, what, x, 3, 1, 1), wantJustify(t, what, x)} {
			y.Balances[0], y.Previous[0] = 9, 9
			if y.Scores[0] != 7*gwei || y.Current[0] != 0 || x.Balances[0] != 7*gwei || x.Previous[0] != 0 {
				t.Errorf("%s: two lists share memory", what)
			}
		}
	}
}

// TestRoomIsNotThere: what stands behind the ends of lists doesn't count.
func TestRoomIsNotThere(t *testing.T) {
	x := withFlags(103, "TT.TTTTT", "TT.TTTTT", members(8, full)...)
	n := 3
	x.Validators, x.Balances, x.Previous, x.Current, x.Scores = x.Validators[:n], x.Balances[:n], x.Previous[:n], x.Current[:n], x.Scores[:n]
	x.Bits = [4]bool{}
	wantUnslashed(t, "three of eight", x, 1, 25, 0, 1)
	wantUnslashed(t, "three of eight", x, 1, 24, 0, 1)
	if y := wantJustify(t, "three of eight", x); y.Bits != bitsOf("xx..") {
		t.Errorf("three of eight: bits %v", y.Bits)
	}
	x.Current[0], x.Previous[1] = 5, 5
	if y := wantJustify(t, "three of eight, of whom one attests", x); y.Bits != bitsOf("....") {
		t.Errorf("three of eight, of whom one attests: bits %v", y.Bits)
	}
}

// TestNothingIsKept: what its owner changes between two calls counts for the second.
func TestNothingIsKept(t *testing.T) {
	x := withFlags(103, "TT.", "TT.", members(3, full)...)
	x.Bits = [4]bool{}
	bits := func(what, want string) {
		t.Helper()
		wantSameUnslashed(t, what, x)
		if y := wantJustify(t, what, x); y.Bits != bitsOf(want) {
			t.Errorf("%s: bits %v", what, y.Bits)
		}
	}
	bits("at first", "xx..")
	x.Current[0] = 0
	bits("one attests no more", ".x..")
	x.Current[2] = 2
	bits("another one does", "xx..")
	x.Validators[1].Slashed = true
	bits("one is slashed by now", "....")
	x.Validators[1].Slashed, x.Validators[0].Exit = false, 25
	bits("one left by now", "xx..")
	x.Validators[2].Activation = 25
	x.Previous[0] = 0
	bits("one comes by now", "x...")
	x.BlockRoots[4] = rootOf("another block", 0)
	if y := wantJustify(t, "another root by now", x); y.Just.Root != rootOf("another block", 0) {
		t.Errorf("another root by now: Just %v", y.Just)
	}
	x.Slot = 107
	bits("an epoch on", "x...")
	x.Slot = 102
	wantNoJustify(t, "no epoch's end by now", x)
}

// TestByChance: many states, mostly right, and weights near two thirds.
func TestByChance(t *testing.T) {
	r := rand.New(rand.NewPCG(22, 1))
	seen, bits, final := map[api.Errno]int{}, map[[4]bool]int{}, 0
	for range 8000 {
		x := byChance(r)
		for range 4 {
			flag, epoch := r.IntN(5)-1, x.Slot/4-2+r.Uint64N(4)
			want, err := plainUnslashed(x, flag, epoch)
			if got, err2 := just.Unslashed(x, flag, epoch); err != err2 || !slices.Equal(got, want) {
				t.Errorf("Unslashed by chance, flag %d, epoch %d: %d, error %d; want %d, error %d", flag, epoch, got, err2, want, err)
			}
		}
		all := oneOf(r, 3, 3000, heaviest-1, heaviest, heaviest+1) - r.Uint64N(3)
		previous, current := all/3*2+r.Uint64N(5)-2, all/3*2+r.Uint64N(5)-2
		want := plainWeigh(x, all, previous, current)
		got, err := just.Weigh(x, all, previous, current)
		wantAnswer(t, "Weigh by chance", answer{got, err}, want)
		seen[want.err]++
		want = plainJustify(x)
		got, err = just.Justify(x)
		wantAnswer(t, "Justify by chance", answer{got, err}, want)
		seen[want.err]++
		bits[want.state.Bits]++
		if want.err == api.OK && want.state.Final != x.Final {
			final++
		}
		if t.Failed() {
			return
		}
	}
	if seen[api.OK] == 0 || seen[api.ErrArg] == 0 || len(seen) != 2 || len(bits) != 16 || final == 0 {
		t.Errorf("errors %v; %d settings of bits; %d times something became final", seen, len(bits), final)
	}
}

func byChance(r *rand.Rand) api.State {
	slot := 80 + r.Uint64N(24)
	switch r.IntN(8) {
	case 0:
		slot = r.Uint64N(16)
	case 1, 2, 3, 4:
		slot |= 3
	}
	now := slot / 4
	validators := members(r.IntN(9), 0)
	for i := range validators {
		v := &validators[i]
		v.Effective, v.Slashed = r.Uint64N(33)*gwei, r.IntN(8) == 0
		v.Activation, v.Exit = oneOf(r, 0, 0, 0, now, now+1, max(now, 1)-1), oneOf(r, far, far, far, now, now+1, max(now, 1)-1)
	}
	x := withValidators(slot, validators...)
	for i := range validators {
		x.Previous[i], x.Current[i] = uint8(r.IntN(256))|uint8(r.IntN(256)), uint8(r.IntN(256))|uint8(r.IntN(256))
	}
	x.Bits = bitsOf(lettersOf(r.IntN(16)))
	x.OldJust.Epoch, x.Just.Epoch, x.Final.Epoch = now-min(r.Uint64N(5), now), now-min(r.Uint64N(4), now), now-min(r.Uint64N(6), now)
	if r.IntN(20) == 0 {
		x.Just.Epoch = now + 1
	}
	return x
}

func oneOf(r *rand.Rand, l ...uint64) uint64 { return l[r.IntN(len(l))] }

// TestStatesBehindAreRight, and a call to them goes on from there.
func TestStatesBehindAreRight(t *testing.T) {
	r := rand.New(rand.NewPCG(22, 2))
	x := withValidators(3, members(7, full)...)
	for epoch := range uint64(300) {
		x.Slot = 4*epoch + 3
		for i := range x.Current {
			x.Previous[i], x.Current[i] = x.Current[i], uint8(r.IntN(4))|uint8(r.IntN(4))
		}
		if epoch%3 == 0 {
			x = wantWeigh(t, fmt.Sprint("in a row, epoch ", epoch), x, 3, 1+r.Uint64N(2), 1+r.Uint64N(2))
		} else {
			x = wantJustify(t, fmt.Sprint("in a row, epoch ", epoch), x)
		}
		if !state.Right(x) {
			t.Fatalf("epoch %d: it isn't right any more", epoch)
		}
	}
}

// Nothing is kept from call to call, and calls side by side don't meet.
func TestCallsSideBySide(t *testing.T) {
	x := withValidators(103, members(40, full)...)
	var wait sync.WaitGroup
	for i := range uint64(24) {
		wait.Go(func() {
			wantSameUnslashed(t, "side by side", x)
			wantWeigh(t, "side by side", x, 36, i, 36-i)
			wantJustify(t, "side by side", x)
			wantNoWeigh(t, "side by side", x, 36, i, heaviest+1+i)
		})
	}
	wait.Wait()
}
