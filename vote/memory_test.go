package vote_test

import (
	"fmt"
	"math/rand/v2"
	"slices"
	"sync"
	"testing"

	"pharos/api"
	"pharos/state"
	"pharos/vote"
)

// What is handed in stays, and what is answered is new memory.

// answers of one round of both calls.
type answers struct {
	Flags  [3]bool
	State  api.State
	Asked  []api.Root
	Errors [2]api.Errno
}

// given to both calls of one round.
type given struct {
	X   api.State
	A   api.Attest
	Bad []api.Root
}

func askAll(g given) answers {
	var a answers
	a.Flags, a.Errors[0] = vote.Flags(g.X, g.A.Data)
	a.State, a.Asked, a.Errors[1] = vote.Attest(g.X, g.A, g.Bad)
	return a
}

// text of the answers without the room behind their lists' ends.
func (a answers) text() string { return fmt.Sprint(a) }

// withRoomFor bits as they are, and some spare room.
func withRoomFor(bits []bool) []bool {
	l := room[bool](len(bits))
	copy(l, bits)
	return l
}

// rounds: states and attestations of all kinds, taken and refused. Their lists have room behind their ends.
func rounds(t *testing.T) map[string]given {
	t.Helper()
	round := func(x api.State, of uint64) given {
		return given{x, attestAt(x, of, 0), append(make([]api.Root, 0, 9), rootsOf("question", 3)...)}
	}
	all := map[string]given{
		"nobody": round(withValidators(101), 100), "one": round(withValidators(103, members(1, full)...), 99),
		"of the epoch": round(withValidators(102, members(16, full)...), 101), "of the previous one": round(withValidators(102, members(300, full)...), 98),
		"in epoch 0": round(withValidators(3, members(40, full)...), 2),
	}
	for i, f := range attestFaults() {
		g := round(withValidators(101, members(16, full)...), 99)
		if f.ofState != nil {
			f.ofState(&g.X)
		}
		if f.want == api.BadSig {
			g.Bad = append(g.Bad, askedOf(g.X, g.A))
		}
		if f.ofAttest != nil {
			f.ofAttest(&g.A)
			g.A.Bits = withRoomFor(g.A.Bits)
		}
		all[fmt.Sprintf("fault %d, error %d", i, f.want)] = g
		if _, _, err := vote.Attest(g.X, g.A, g.Bad); err != f.want {
			t.Errorf("fault %d: error %d; want %d", i, err, f.want)
		}
	}
	return all
}

func TestWhatIsHandedInStays(t *testing.T) {
	for what, g := range rounds(t) {
		before := whole(&g)
		one, two := askAll(g), askAll(g)
		if whole(&g) != before {
			t.Errorf("%s: what was handed in was changed, or its room", what)
		}
		if one.text() != two.text() {
			t.Errorf("%s: asked again, other answers", what)
		}
	}
}

// TestAnswersAreNewMemory: what the caller does with an answer changes neither what was handed in nor another answer, and the other way round.
func TestAnswersAreNewMemory(t *testing.T) {
	for what, g := range rounds(t) {
		first, second := askAll(g), askAll(g)
		before, told := whole(&g), second.text()
		spoil(&first)
		first.Asked = append(first.Asked, api.Root{})
		if whole(&g) != before {
			t.Errorf("%s: an answer shares memory with what was handed in", what)
		}
		if second.text() != told {
			t.Errorf("%s: two answers share memory", what)
		}
		if askAll(g).text() != told {
			t.Errorf("%s: other answers, once one was changed by the caller", what)
		}
		spoil(&g)
		if second.text() != told {
			t.Errorf("%s: an answer hangs on what was handed in, later on", what)
		}
	}
}

// TestListsOfOneAnswer share no memory with each other.
func TestListsOfOneAnswer(t *testing.T) {
	x := withValidators(103, members(16, full)...)
	x.Balances = slices.Repeat([]uint64{7 * gwei}, 16)
	x.Scores = x.Balances // as they may be handed in
	x.Current = x.Previous
	for _, of := range []uint64{99, 102} {
		a := attestAt(x, of, 0)
		y := wantAttest(t, fmt.Sprint("of slot ", of), x, a, nil)
		previous, current := changedFlags(x, y)
		if len(previous)+len(current) != 2 {
			t.Errorf("of slot %d: changed are Previous of %d, Current of %d", of, previous, current)
		}
		if slices.ContainsFunc(y.Scores, func(n uint64) bool { return n != 7*gwei }) {
			t.Errorf("of slot %d: what the proposer is given counts as a score: %d", of, y.Scores)
		}
		y.Balances[0], y.Previous[0] = 9, 99
		if y.Scores[0] == 9 || y.Current[0] == 99 || x.Balances[0] == 9 || x.Previous[0] == 99 {
			t.Errorf("of slot %d: two lists share memory", of)
		}
	}
}

// TestRoomIsNotThere: what stands behind the ends of lists doesn't count.
func TestRoomIsNotThere(t *testing.T) {
	x := withValidators(102, members(16, full)...)
	n := 15 // a validator less: one committee a slot less
	x.Validators, x.Balances, x.Previous, x.Current, x.Scores = x.Validators[:n], x.Balances[:n], x.Previous[:n], x.Current[:n], x.Scores[:n]
	a := attestAt(x, 101, 0)
	wantAttest(t, "15 of 16", x, a, nil)
	a.Data.Index = 1
	wantNoAttest(t, "15 of 16, the second committee", x, a, nil, api.BadIndex)
	a = attestAt(x, 101, 0)
	size := len(a.Bits)
	long := append(slices.Clone(a.Bits), bitsOf(100)...)
	a.Bits = long[:size]
	wantAttest(t, "bits with others behind their end", x, a, nil)
	a.Bits = long[:size-1]
	wantNoAttest(t, "a bit less, with others behind the end", x, a, nil, api.BadBits)
	a.Bits = long[:size]
	q := askedOf(x, a)
	bad := append(rootsOf("question", 3), q)
	wantAttest(t, "bad behind the end", x, a, bad[:3])
	wantNoAttest(t, "bad at the end", x, a, bad, api.BadSig, q)
}

// TestNothingIsKept: what its owner changes between two calls counts for the second.
func TestNothingIsKept(t *testing.T) {
	x := withValidators(102, members(40, full)...)
	a := attestAt(x, 101, 0)
	bad := []api.Root{askedOf(x, a)}
	wantNoAttest(t, "at first", x, a, bad, api.BadSig, bad[0])
	a.Bits[0] = false
	wantAttest(t, "one less attests", x, a, bad)
	a.Bits[0] = true
	bad[0] = api.Root{}
	wantAttest(t, "no more bad", x, a, bad)
	x.Current[plainCommittee(x, 101, 0)[2]] |= 2
	wantAttest(t, "another flag", x, a, bad)
	for i := range x.Validators {
		x.Validators[i].Effective = 9 * gwei
	}
	wantAttest(t, "other balances", x, a, bad)
	x.Mixes[7] = rootOf("another mix", 0) // and so other committees, and perhaps another proposer
	wantAttest(t, "another mix", x, a, bad)
	x.BlockRoots[5][0]++
	wantFlags(t, "another root", x, a.Data, "ST")
	wantAttest(t, "another root", x, a, bad)
	x.Validators = slices.Clone(x.Validators)
	for i := range x.Validators[15:] {
		x.Validators[15+i].Exit = 25
	}
	b := attestAt(x, 101, 0)
	b.Data.Index = 1
	wantNoAttest(t, "fewer are left", x, b, bad, api.BadIndex)
}

// TestByChance: many states and attestations, mostly such as are taken.
func TestByChance(t *testing.T) {
	r := rand.New(rand.NewPCG(19, 1))
	seen := map[api.Errno]int{}
	for range 6000 {
		x := stateByChance(r)
		mustRight(t, x)
		a := attestByChance(r, x)
		var bad []api.Root
		if asked := plainAttest(x, a, nil).asked; len(asked) > 0 && r.IntN(9) == 0 {
			bad = append(rootsOf("question", r.IntN(3)), asked...)
		}
		want := plainAttest(x, a, bad)
		got, asked, err := vote.Attest(x, a, bad)
		wantAnswer(t, fmt.Sprint("Attest by chance, ", a), answer{got, asked, err}, want)
		seen[want.err]++
		flags, err := vote.Flags(x, a.Data)
		if plain, err2 := plainFlags(x, a.Data); flags != plain || err != err2 {
			t.Errorf("Flags by chance, %v: %v, error %d; want %v, error %d", a.Data, flags, err, plain, err2)
		}
		if t.Failed() {
			return
		}
	}
	for _, err := range []api.Errno{api.OK, api.ErrLong, api.BadEpoch, api.BadDelay, api.BadIndex, api.BadBits, api.BadSource, api.BadList, api.BadSig, api.ErrNone, api.ErrOver} {
		if seen[err] == 0 {
			t.Errorf("the error %d was never met", err)
		}
	}
}

func stateByChance(r *rand.Rand) api.State {
	validators := members(1+r.IntN(40), 0)
	for i := range validators {
		v := &validators[i]
		v.Effective, v.Slashed = r.Uint64N(33)*gwei, r.IntN(5) == 0
		v.Activation, v.Exit = oneOf(r, 0, 0, 0, 24, 25, 26), oneOf(r, 24, 25, 26, far, far, far, far)
	}
	if r.IntN(20) == 0 {
		for i := range validators {
			validators[i].Exit = 25
		}
	}
	x := withValidators(100+r.Uint64N(4), validators...)
	for k := range x.Mixes {
		x.Mixes[k] = rootOf("chance", r.Int())
	}
	for i := range x.Balances {
		x.Balances[i], x.Previous[i], x.Current[i] = oneOf(r, 0, 1, gwei, 17*gwei, 32*gwei), uint8(r.Uint32()), uint8(r.Uint32())
	}
	if r.IntN(12) == 0 {
		clear(x.Balances)
		x.Balances[0] = most - oneOf(r, 0, 1, 100000, 200000, 400000)
	}
	if r.IntN(4) == 0 {
		x.Just.Epoch, x.OldJust.Epoch = 24, 24
	}
	return x
}

func oneOf(r *rand.Rand, l ...uint64) uint64 { return l[r.IntN(len(l))] }

// attestByChance of what is right, mostly, but with a fault at times.
func attestByChance(r *rand.Rand, x api.State) api.Attest {
	of := x.Slot - 1 - r.Uint64N(4)
	a := attestAt(x, of, r.Uint64N(plainCount(x, of/4)))
	for i := range a.Bits {
		a.Bits[i] = r.IntN(8) > 0
	}
	switch r.IntN(24) {
	case 0:
		a.Bits = append(a.Bits, true)
	case 1:
		a.Bits = bitsOf(60 + r.IntN(9))
	case 2:
		a.Data.Slot = x.Slot - 8 + r.Uint64N(12)
	case 3:
		a.Data.Target.Epoch = 23 + r.Uint64N(4)
	case 4:
		a.Data.Index = r.Uint64N(3)
	case 5:
		a.Data.Source = x.OldJust
	case 6:
		a.Data.Source.Root[r.IntN(32)] ^= 1 << r.IntN(8)
	case 7, 8:
		a.Data.Target.Root[r.IntN(32)] ^= 1 << r.IntN(8)
	case 9, 10:
		a.Data.Block[r.IntN(32)] ^= 1 << r.IntN(8)
	case 11:
		clear(a.Bits)
	}
	return a
}

// TestStatesBehindAreRight, and a call to them goes on from there: all committees of all slots that may still attest, with each slot that goes by.
func TestStatesBehindAreRight(t *testing.T) {
	x := withValidators(100, members(40, full)...)
	for slot := uint64(100); slot < 104; slot++ {
		x.Slot = slot
		for of := slot - 4; of < slot; of++ {
			for index := range uint64(2) {
				x = wantAttest(t, fmt.Sprintf("slot %d, of slot %d, index %d", slot, of, index), x, attestAt(x, of, index), nil)
				if !state.Right(x) {
					t.Fatalf("slot %d: what is answered isn't right", slot)
				}
				x.Validators[of%4].Credentials[0]++ // the answer is the caller's
			}
		}
	}
	for i := range x.Validators {
		if late := slices.Contains(plainCommittee(x, 103, 0), uint64(i)) || slices.Contains(plainCommittee(x, 103, 1), uint64(i)); x.Previous[i]&2 == 0 || x.Current[i]&7 == 7 == late {
			t.Errorf("%d has the flags %b and %b", i, x.Previous[i], x.Current[i])
		}
	}
}

// Nothing is kept from call to call, and calls side by side don't meet.
func TestCallsSideBySide(t *testing.T) {
	x := withValidators(102, members(40, full)...)
	bad := rootsOf("question", 5)
	var wait sync.WaitGroup
	for i := range uint64(24) {
		wait.Go(func() {
			a := attestAt(x, 98+i%4, i/4%2)
			a.Bits[i%5] = false
			wantAttest(t, "side by side", x, a, bad)
			_, err := vote.Flags(x, a.Data)
			if err != api.OK {
				t.Errorf("side by side: error %d", err)
			}
		})
	}
	wait.Wait()
}
