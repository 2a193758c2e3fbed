package join_test

import (
	"fmt"
	"math/rand/v2"
	"slices"
	"sync"
	"testing"

	"pharos/api"
	"pharos/join"
	"pharos/state"
)

// What is handed in stays, and what is answered is new memory.

// answers of one round of both calls.
type answers struct {
	Deposit, Exit           api.State
	AskedDeposit, AskedExit []api.Root
	Errors                  [2]api.Errno
}

// given to both calls of one round.
type given struct {
	X   api.State
	D   api.Deposit
	E   api.SignedExit
	Bad []api.Root
}

func askAll(g given) answers {
	var a answers
	a.Deposit, a.AskedDeposit, a.Errors[0] = join.Deposit(g.X, g.D, g.Bad)
	a.Exit, a.AskedExit, a.Errors[1] = join.Exit(g.X, g.E, g.Bad)
	return a
}

// text of the answers without the room behind their lists' ends.
func (a answers) text() string { return fmt.Sprint(a) }

// rounds: states, deposits and exits of all kinds, taken and refused. Their lists have room behind their ends.
func rounds(t *testing.T) map[string]given {
	t.Helper()
	round := func(x api.State, d api.Deposit) given {
		bad := append(make([]api.Root, 0, 9), rootsOf("another question", 3)...)
		return given{expecting(x, d), d, exitOf(25, 5), bad}
	}
	all := map[string]given{
		"nobody": round(withValidators(103), depositOf(1, 32*gwei)), "the zero state": round(api.State{}, depositOf(1, 32*gwei)),
		"a new one": round(withValidators(103, members(16, full)...), depositOf(1, 32*gwei)), "one who is there": round(withValidators(103, members(16, full)...), depositFor(5, 7*gwei)),
		"many, and a new one": round(withValidators(103, members(200, full)...), depositOf(1, 5)), "many, and one who is there": round(withValidators(103, members(200, full)...), depositFor(199, 7)),
		"some leave": round(withValidators(103, leavers(28, 28, far, far, far, far, 29, 30, far, far)...), depositFor(0, 0)),
	}
	for i, f := range depositFaults() {
		if i == 3 {
			continue // so many validators, written as text, would take too long
		}
		g := round(withValidators(103, members(16, full)...), depositOf(1, 32*gwei))
		if f.of != nil {
			f.of(&g.X, &g.D)
		}
		if i > 1 {
			g.X = expecting(g.X, g.D)
		}
		if f.isBad {
			g.Bad = append(g.Bad, askedOfDeposit(g.D))
		}
		all[fmt.Sprintf("deposit %d, error %d", i, f.want)] = g
	}
	for i, f := range exitFaults() {
		g := round(withValidators(103, members(16, full)...), depositOf(1, 32*gwei))
		if f.of != nil {
			f.of(&g.X, &g.E)
		}
		if f.isBad {
			g.Bad = append(g.Bad, askedOfExit(g.X, g.E))
		}
		all[fmt.Sprintf("exit %d, error %d", i, f.want)] = g
	}
	return all
}

func TestWhatIsHandedInStays(t *testing.T) {
	for what, g := range rounds(t) {
		before := whole(&g)
		one, two := askAll(g), askAll(g)
		if whole(&g) != before {
			t.Errorf("%s: what was handed in was changed, or its room", what)
		}
		if one.text() != two.text() {
			t.Errorf("%s: asked again, other answers", what)
		}
	}
}

// TestAnswersAreNewMemory: what the caller does with an answer changes neither what was handed in nor another answer, and the other way round.
func TestAnswersAreNewMemory(t *testing.T) {
	for what, g := range rounds(t) {
		first, second := askAll(g), askAll(g)
		before, told := whole(&g), second.text()
		spoil(&first)
		first.AskedDeposit, first.AskedExit = append(first.AskedDeposit, api.Root{}), append(first.AskedExit, api.Root{})
		if whole(&g) != before {
			t.Errorf("%s: an answer shares memory with what was handed in", what)
		}
		if second.text() != told {
			t.Errorf("%s: two answers share memory", what)
		}
		if askAll(g).text() != told {
			t.Errorf("%s: other answers, once one was changed by the caller", what)
		}
		spoil(&g)
		if second.text() != told {
			t.Errorf("%s: an answer hangs on what was handed in, later on", what)
		}
	}
}

// TestListsOfOneAnswer share no memory with each other.
func TestListsOfOneAnswer(t *testing.T) {
	x := withValidators(103, members(10, full)...)
	x.Balances = append(make([]uint64, 0, 16), slices.Repeat([]uint64{7 * gwei}, 10)...)
	x.Previous = make([]uint8, 10, 16)
	x.Scores, x.Current = x.Balances, x.Previous // as they may be handed in
	for what, d := range map[string]api.Deposit{"a new one": depositOf(1, 32*gwei), "one who is there": depositFor(5, 7)} {
		a := askAll(given{X: expecting(x, d), D: d, E: exitOf(25, 5)})
		if a.Errors != [2]api.Errno{} {
			t.Fatalf("%s: errors %d", what, a.Errors)
		}
		for i, y := range []api.State{a.Deposit, a.Exit} {
			y.Balances[0], y.Previous[0] = 9, 9
			if y.Scores[0] != 7*gwei || y.Current[0] != 0 || x.Balances[0] != 7*gwei || x.Previous[0] != 0 {
				t.Errorf("%s, answer %d: two lists share memory", what, i)
			}
		}
		if n := len(a.Deposit.Validators); n == 11 && (a.Deposit.Balances[10] != 32*gwei || a.Deposit.Scores[10] != 0) {
			t.Errorf("%s: balances %d, scores %d", what, a.Deposit.Balances, a.Deposit.Scores)
		}
	}
}

// TestRoomIsNotThere: what stands behind the ends of lists doesn't count.
func TestRoomIsNotThere(t *testing.T) {
	x := withValidators(103, members(16, full)...)
	for i := 9; i < 16; i++ {
		x.Validators[i].Exit = 1000
	}
	n := 9
	x.Validators, x.Balances, x.Previous, x.Current, x.Scores = x.Validators[:n], x.Balances[:n], x.Previous[:n], x.Current[:n], x.Scores[:n]
	if y := wantExit(t, "nine of 16", x, exitOf(25, 5), nil); y.Validators[5].Exit != 28 {
		t.Errorf("the exits behind the end count: %d", y.Validators[5].Exit)
	}
	wantNoExit(t, "one behind the end", x, exitOf(25, 9), nil, api.BadWho)
	d := depositFor(9, 5*gwei)
	before := whole(&x)
	if y := wantDeposit(t, "the key of one behind the end", expecting(x, d), d, nil); len(y.Validators) != 10 || y.Validators[9].Exit != far || y.Current[9] != 0 || y.Previous[9] != 0 {
		t.Errorf("the key of one behind the end: %v", y)
	}
	if whole(&x) != before {
		t.Error("the new one stands in the room of what was handed in")
	}
	e := exitOf(25, 5)
	bad := append(rootsOf("another question", 3), askedOfDeposit(d), askedOfExit(x, e))
	wantDeposit(t, "bad behind the end", expecting(x, d), d, bad[:3])
	wantExit(t, "bad behind the end", x, e, bad[:3])
}

// TestNothingIsKept: what its owner changes between two calls counts for the second.
func TestNothingIsKept(t *testing.T) {
	d, e := depositOf(1, 32*gwei), exitOf(25, 5)
	x := expecting(withValidators(103, members(16, full)...), d)
	bad := []api.Root{askedOfDeposit(d), askedOfExit(x, e)}
	if y := wantDeposit(t, "at first", x, d, bad); len(y.Validators) != 16 {
		t.Errorf("a bad one joined: %d validators", len(y.Validators))
	}
	wantNoExit(t, "at first", x, e, bad, api.BadSig, bad[1])
	bad[0], bad[1] = api.Root{}, api.Root{}
	if y := wantDeposit(t, "no more bad", x, d, bad); len(y.Validators) != 17 {
		t.Errorf("%d validators", len(y.Validators))
	}
	wantExit(t, "no more bad", x, e, bad)
	x.Validators[3].Key = d.Data.Key
	if y := wantDeposit(t, "somebody has the key by now", x, d, bad); len(y.Validators) != 16 {
		t.Errorf("%d validators, while one has the key by now", len(y.Validators))
	}
	x.Validators[3].Key = keyOf(3)
	if y := wantDeposit(t, "nobody has the key any more", x, d, bad); len(y.Validators) != 17 {
		t.Errorf("%d validators, while nobody has the key any more", len(y.Validators))
	}
	x.Validators[0].Exit, x.Validators[1].Exit = 40, 40
	if y := wantExit(t, "others leave by now", x, e, bad); y.Validators[5].Exit != 41 {
		t.Errorf("Exit %d", y.Validators[5].Exit)
	}
	x.Validators[5].Activation = 24
	wantNoExit(t, "it came later", x, e, bad, api.BadDelay)
}

// TestByChance: many states, deposits and exits, mostly such as are taken.
func TestByChance(t *testing.T) {
	r := rand.New(rand.NewPCG(20, 1))
	seen := map[api.Errno]int{}
	for range 5000 {
		x, d, e := byChance(r)
		mustRight(t, x)
		var bad []api.Root
		if r.IntN(3) == 0 {
			bad = append(bad, plainDeposit(x, d, nil).asked...)
			bad = append(bad, plainExit(x, e, nil).asked...)
		}
		want := plainDeposit(x, d, bad)
		got, asked, err := join.Deposit(x, d, bad)
		wantAnswer(t, fmt.Sprint("Deposit by chance, ", d), answer{got, asked, err}, want)
		seen[want.err]++
		want = plainExit(x, e, bad)
		got, asked, err = join.Exit(x, e, bad)
		wantAnswer(t, fmt.Sprint("Exit by chance, ", e), answer{got, asked, err}, want)
		seen[want.err]++
		if t.Failed() {
			return
		}
	}
	for _, err := range []api.Errno{api.OK, api.ErrOver, api.BadProof, api.BadWho, api.BadExit, api.BadEpoch, api.BadDelay, api.BadSig} {
		if seen[err] == 0 {
			t.Errorf("the error %d was never met", err)
		}
	}
}

func byChance(r *rand.Rand) (api.State, api.Deposit, api.SignedExit) {
	validators := members(r.IntN(20), 0)
	for i := range validators {
		v := &validators[i]
		v.Effective, v.Slashed = r.Uint64N(33)*gwei, r.IntN(5) == 0
		v.Activation, v.Exit, v.Withdrawable = 20+r.Uint64N(7), oneOf(r, 25, 26, 28, 29, 30, far, far, far, far, far, far), oneOf(r, 25, 26, 30, 33, 34, far, far)
		if r.IntN(80) == 0 {
			v.Exit = lastEpoch - r.Uint64N(4)
		}
	}
	x := withValidators(96+r.Uint64N(12), validators...)
	x.Deposits = oneOf(r, 0, 1, r.Uint64N(200), lastDeposits-r.Uint64N(2))
	if len(x.Balances) > 0 && r.IntN(6) == 0 {
		x.Balances[0] = 0
		x.Balances[0] = most - sum(x.Balances) - r.Uint64N(2)*32*gwei
	}
	amount := oneOf(r, 0, gwei, 31*gwei+r.Uint64N(gwei), 32*gwei, 33*gwei, r.Uint64N(40*gwei), most-r.Uint64N(2), most+1)
	d := depositOf(r.IntN(4), amount)
	if r.IntN(2) == 0 {
		d = depositFor(r.IntN(20), amount)
	}
	for range r.IntN(2) * len(validators) / 3 { // some of them have one key
		x.Validators[r.IntN(len(validators))].Key = d.Data.Key
	}
	if x = expecting(x, d); r.IntN(10) == 0 {
		x.Deposits ^= 1 << r.IntN(9)
	}
	return x, d, exitOf(20+r.Uint64N(8), r.Uint64N(20))
}

func oneOf(r *rand.Rand, l ...uint64) uint64 { return l[r.IntN(len(l))] }

func sum(l []uint64) uint64 {
	all := uint64(0)
	for _, n := range l {
		all += n
	}
	return all
}

// TestStatesBehindAreRight, and a call to them goes on from there: from nobody on, deposits and exits in a row.
func TestStatesBehindAreRight(t *testing.T) {
	x := withValidators(103)
	x.Deposits = 0
	for i := range 70 {
		d := depositFor(i/2, uint64(i+10)*gwei)
		x = wantDeposit(t, fmt.Sprint("in a row, ", i), expecting(x, d), d, nil)
		if len(x.Validators) != i/2+1 || x.Deposits != uint64(i+1) || !state.Right(x) {
			t.Fatalf("deposit %d: %d validators, Deposits %d", i, len(x.Validators), x.Deposits)
		}
	}
	for i := range uint64(35) {
		wantNoExit(t, "not active yet", x, exitOf(25, i), nil, api.BadWho)
		x.Validators[i].Activation = 3 // the answer is the caller's
	}
	for i := range uint64(35) {
		x = wantExit(t, fmt.Sprint("in a row, ", i), x, exitOf(25, i), nil)
		if x.Validators[i].Exit != 28+i/2 || x.Balances[i] != (4*i+21)*gwei || !state.Right(x) {
			t.Fatalf("%d: Exit %d, balance %d", i, x.Validators[i].Exit, x.Balances[i])
		}
	}
}

// Nothing is kept from call to call, and calls side by side don't meet.
func TestCallsSideBySide(t *testing.T) {
	x := withValidators(103, members(40, full)...)
	d := depositOf(1, 32*gwei)
	x = expecting(x, d)
	bad := rootsOf("another question", 5)
	var wait sync.WaitGroup
	for i := range uint64(24) {
		wait.Go(func() {
			wantDeposit(t, "side by side", x, d, bad)
			wantDeposit(t, "side by side, bad", x, d, []api.Root{askedOfDeposit(d)})
			wantExit(t, "side by side", x, exitOf(25, i), bad)
		})
	}
	wait.Wait()
}
