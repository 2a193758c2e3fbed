package choir_test

import (
	"fmt"
	"math/rand/v2"
	"slices"
	"sync"
	"testing"

	"pharos/api"
	"pharos/choir"
	"pharos/state"
)

// What is handed in stays, and what is answered is new memory.

// answers of one round of both calls.
type answers struct {
	Sync        api.State
	Asked       []api.Root
	Error       api.Errno
	Share, More uint64
}

// given to both calls of one round.
type given struct {
	X   api.State
	A   api.SyncAggregate
	Bad []api.Root
}

func askAll(g given) answers {
	var a answers
	a.Sync, a.Asked, a.Error = choir.Sync(g.X, g.A, g.Bad)
	a.Share, a.More = choir.Shares(g.X)
	return a
}

// text of the answers without the room behind their lists' ends.
func (a answers) text() string { return fmt.Sprint(a) }

// rounds: states and aggregates of all kinds, taken and refused. Their lists have room behind their ends.
func rounds(t *testing.T) map[string]given {
	t.Helper()
	round := func(x api.State, a api.SyncAggregate) given {
		return given{x, a, append(make([]api.Root, 0, 9), rootsOf("another question", 3)...)}
	}
	all := map[string]given{
		"nobody": round(withValidators(103), signedBy("xx")), "the zero state": round(api.State{}, nobodySigns()),
		"nobody signs": round(withValidators(103, members(16, full)...), nobodySigns()), "some sign": round(withValidators(103, members(16, full)...), signedBy("x.xx")),
		"of many": round(withValidators(103, members(200, full)...), signedBy("xxxxxxxx")), "one alone": round(alone(5), signedBy("x.......")),
	}
	for i, f := range faults() {
		g := round(withValidators(103, members(16, full)...), signedBy("xxxxxxxx"))
		if f.of != nil {
			f.of(&g.X)
		}
		if f.isBad {
			g.Bad = append(g.Bad, askedOf(g.X, g.A))
		}
		all[fmt.Sprintf("fault %d, error %d", i, f.want)] = g
	}
	return all
}

func TestWhatIsHandedInStays(t *testing.T) {
	for what, g := range rounds(t) {
		before := whole(&g)
		one, two := askAll(g), askAll(g)
		if whole(&g) != before {
			t.Errorf("%s: what was handed in was changed, or its room", what)
		}
		if one.text() != two.text() {
			t.Errorf("%s: asked again, other answers", what)
		}
	}
}

// TestAnswersAreNewMemory: what the caller does with an answer changes neither what was handed in nor another answer, and the other way round.
func TestAnswersAreNewMemory(t *testing.T) {
	for what, g := range rounds(t) {
		first, second := askAll(g), askAll(g)
		before, told := whole(&g), second.text()
		spoil(&first)
		first.Asked = append(first.Asked, api.Root{})
		if whole(&g) != before {
			t.Errorf("%s: an answer shares memory with what was handed in", what)
		}
		if second.text() != told {
			t.Errorf("%s: two answers share memory", what)
		}
		if askAll(g).text() != told {
			t.Errorf("%s: other answers, once one was changed by the caller", what)
		}
		spoil(&g)
		if second.text() != told {
			t.Errorf("%s: an answer hangs on what was handed in, later on", what)
		}
	}
}

// TestListsOfOneAnswer share no memory with each other.
func TestListsOfOneAnswer(t *testing.T) {
	x := withValidators(103, members(10, full)...)
	x.Balances = append(make([]uint64, 0, 16), slices.Repeat([]uint64{7 * gwei}, 10)...)
	x.Previous = make([]uint8, 10, 16)
	x.Scores, x.Current = x.Balances, x.Previous // as they may be handed in
	for what, a := range map[string]api.SyncAggregate{"nobody signs": nobodySigns(), "all sign": signedBy("xxxxxxxx")} {
		y := wantSync(t, what, x, a, nil)
		if slices.ContainsFunc(y.Scores, func(score uint64) bool { return score != 7*gwei }) {
			t.Errorf("%s: scores %d", what, y.Scores)
		}
		y.Balances[0], y.Previous[0] = 9, 9
		if y.Scores[0] != 7*gwei || y.Current[0] != 0 || x.Balances[0] != 7*gwei || x.Previous[0] != 0 {
			t.Errorf("%s: two lists share memory", what)
		}
	}
}

// TestRoomIsNotThere: what stands behind the ends of lists doesn't count.
func TestRoomIsNotThere(t *testing.T) {
	x := withCommittee(withValidators(103, members(16, full)...), 0, 1, 2, 3, 4, 5, 6, 8)
	n := 9
	x.Validators, x.Balances, x.Previous, x.Current, x.Scores = x.Validators[:n], x.Balances[:n], x.Previous[:n], x.Current[:n], x.Scores[:n]
	a := signedBy("xx.....x")
	if share, _ := wantShares(t, "nine of 16", x); share != 33541 {
		t.Errorf("nine of 16: a share is %d", share)
	}
	wantSync(t, "nine of 16", x, a, nil)
	bad := append(rootsOf("another question", 3), askedOf(x, a))
	wantSync(t, "bad behind the end", x, a, bad[:3])
	x.Sync.Keys[7] = keyOf(9)
	wantNoSync(t, "the key of one behind the end", x, a, nil, api.BadWho, askedOf(x, a))
}

// TestNothingIsKept: what its owner changes between two calls counts for the second.
func TestNothingIsKept(t *testing.T) {
	a := signedBy("xx.....x")
	x := withValidators(103, members(16, full)...)
	bad := []api.Root{askedOf(x, a)}
	wantNoSync(t, "at first", x, a, bad, api.BadSig, bad[0])
	bad[0] = api.Root{}
	wantSync(t, "no more bad", x, a, bad)
	x.Validators[3].Key = keyOf(500)
	wantNoSync(t, "another key by now", x, a, bad, api.BadWho, askedOf(x, a))
	x.Validators[12].Key = keyOf(3)
	wantSync(t, "another has the key by now", x, a, bad)
	for i := range x.Validators {
		x.Validators[i].Effective = gwei
	}
	wantShares(t, "less by now", x)
	wantSync(t, "less by now", x, a, bad)
	x.Mixes[(25+6)%8] = rootOf("mix", 99)
	wantSync(t, "another one proposes by now", x, a, bad)
}

// TestByChance: many states and aggregates, mostly such as are taken.
func TestByChance(t *testing.T) {
	r := rand.New(rand.NewPCG(21, 1))
	seen := map[api.Errno]int{}
	for range 6000 {
		x, a := byChance(r)
		var bad []api.Root
		if r.IntN(4) == 0 {
			bad = append(bad, plainSync(x, a, nil).asked...)
		}
		want := plainSync(x, a, bad)
		got, asked, err := choir.Sync(x, a, bad)
		wantAnswer(t, fmt.Sprint("by chance, ", a), answer{got, asked, err}, want)
		wantShares(t, "by chance", x)
		if seen[want.err]++; t.Failed() {
			return
		}
	}
	for _, err := range []api.Errno{api.OK, api.ErrOver, api.ErrNone, api.BadSlot, api.BadSig, api.BadWho} {
		if seen[err] == 0 {
			t.Errorf("the error %d was never met", err)
		}
	}
}

func byChance(r *rand.Rand) (api.State, api.SyncAggregate) {
	n := r.IntN(20)
	validators := members(n, 0)
	for i := range validators {
		v := &validators[i]
		v.Effective, v.Slashed = r.Uint64N(33)*gwei, r.IntN(5) == 0
		v.Activation, v.Exit = 20+r.Uint64N(7), oneOf(r, 25, 26, 28, far, far, far)
	}
	x := withValidators(96+r.Uint64N(12), validators...)
	if r.IntN(30) == 0 {
		x.Slot, x.Header.Slot = 0, 0
	}
	x.Fork.Epoch = 22 + r.Uint64N(6)
	for i := range x.Balances {
		x.Balances[i] = r.Uint64N(60000)
	}
	for i := range x.Sync.Keys {
		x.Sync.Keys[i] = keyOf(r.IntN(max(n, 1)))
		if r.IntN(60) == 0 {
			x.Sync.Keys[i] = keyOf(500)
		}
	}
	if n > 0 && r.IntN(5) == 0 {
		x.Balances[0] = 0
		x.Balances[0] = most - sum(x.Balances) - r.Uint64N(2)*100000
	}
	a := eachBits()[r.IntN(256)]
	if r.IntN(5) == 0 {
		a = nobodySigns()
		a.Bits[r.IntN(8)] = r.IntN(2) == 0
	}
	return x, a
}

func oneOf(r *rand.Rand, l ...uint64) uint64 { return l[r.IntN(len(l))] }

// TestStatesBehindAreRight, and a call to them goes on from there.
func TestStatesBehindAreRight(t *testing.T) {
	x := withValidators(101, members(16, full)...)
	for i, a := range eachBits() {
		x = wantSync(t, fmt.Sprint("in a row, ", i), x, a, nil)
		x = wantSync(t, fmt.Sprint("in a row, and nobody, ", i), x, nobodySigns(), nil)
		if !state.Right(x) {
			t.Fatalf("%d: it isn't right any more", i)
		}
		x.Slot++
	}
}

// Nothing is kept from call to call, and calls side by side don't meet.
func TestCallsSideBySide(t *testing.T) {
	x := withValidators(103, members(40, full)...)
	bad := rootsOf("another question", 5)
	var wait sync.WaitGroup
	for i := range 24 {
		wait.Go(func() {
			a := eachBits()[10*i+3]
			wantSync(t, "side by side", x, a, bad)
			wantNoSync(t, "side by side, bad", x, a, []api.Root{askedOf(x, a)}, api.BadSig, askedOf(x, a))
			wantShares(t, "side by side", x)
		})
	}
	wait.Wait()
}
