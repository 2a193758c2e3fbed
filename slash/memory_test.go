package slash_test

import (
	"fmt"
	"math/rand/v2"
	"slices"
	"sync"
	"testing"

	"pharos/api"
	"pharos/slash"
	"pharos/state"
)

// What is handed in stays, and what is answered is new memory.

// answers of one round of all calls: each with a state, and the questions of two.
type answers struct {
	Leave, Slash, Proposer, Attester api.State
	AskedHeaders, AskedAttests       []api.Root
	Errors                           [4]api.Errno
}

// given to all calls of one round.
type given struct {
	X   api.State
	I   uint64
	P   api.ProposerSlashing
	A   api.AttesterSlashing
	Bad []api.Root
}

func askAll(g given) answers {
	var a answers
	a.Leave, a.Errors[0] = slash.Leave(g.X, g.I)
	a.Slash, a.Errors[1] = slash.Slash(g.X, g.I)
	a.Proposer, a.AskedHeaders, a.Errors[2] = slash.Proposer(g.X, g.P, g.Bad)
	a.Attester, a.AskedAttests, a.Errors[3] = slash.Attester(g.X, g.A, g.Bad)
	return a
}

// text of the answers without the room behind their lists' ends.
func (a answers) text() string { return fmt.Sprint(a) }

// rounds: states and slashings of all kinds, taken and refused. Their lists have room behind their ends.
func rounds(t *testing.T) map[string]given {
	t.Helper()
	round := func(x api.State) given {
		bad := append(make([]api.Root, 0, 9), rootsOf("question", 3)...)
		return given{x, 5, headersOf(103, 5), doubleOf([]uint64{3, 5, 7}, []uint64{4, 5, 7, 9}), bad}
	}
	all := map[string]given{
		"nobody": round(withValidators(103)), "some": round(withValidators(103, members(16, full)...)), "many": round(withValidators(103, members(200, full)...)),
		"some leave": round(withValidators(103, leavers(28, 28, far, far, far, far, 29, 30, far, far)...)),
		"it leaves":  round(withValidators(103, leavers(28, 28, far, far, far, 28, 29, 30, far, far)...)),
	}
	for i, f := range headerFaults() {
		g := round(withValidators(103, members(16, full)...))
		if f.ofState != nil {
			f.ofState(&g.X)
		}
		if f.ofBoth != nil {
			f.ofBoth(&g.P)
		}
		if f.bad > 0 {
			g.Bad = append(g.Bad, askedOfHeaders(g.X, g.P)[f.bad-1])
		}
		all[fmt.Sprintf("headers %d, error %d", i, f.want)] = g
	}
	for i, f := range dataFaults() {
		g := round(withValidators(103, members(16, full)...))
		if f.ofState != nil {
			f.ofState(&g.X)
		}
		if f.ofBoth != nil {
			f.ofBoth(&g.A)
		}
		if f.bad > 0 {
			g.Bad = append(g.Bad, askedOfAttests(g.X, g.A)[f.bad-1])
		}
		all[fmt.Sprintf("attestations %d, error %d", i, f.want)] = g
	}
	return all
}

func TestWhatIsHandedInStays(t *testing.T) {
	for what, g := range rounds(t) {
		before := whole(&g)
		one, two := askAll(g), askAll(g)
		if whole(&g) != before {
			t.Errorf("%s: what was handed in was changed, or its room", what)
		}
		if one.text() != two.text() {
			t.Errorf("%s: asked again, other answers", what)
		}
	}
}

// TestAnswersAreNewMemory: what the caller does with an answer changes neither what was handed in nor another answer, and the other way round.
func TestAnswersAreNewMemory(t *testing.T) {
	for what, g := range rounds(t) {
		first, second := askAll(g), askAll(g)
		before, told := whole(&g), second.text()
		spoil(&first)
		first.AskedHeaders, first.AskedAttests = append(first.AskedHeaders, api.Root{}), append(first.AskedAttests, api.Root{})
		if whole(&g) != before {
			t.Errorf("%s: an answer shares memory with what was handed in", what)
		}
		if second.text() != told {
			t.Errorf("%s: two answers share memory", what)
		}
		if askAll(g).text() != told {
			t.Errorf("%s: other answers, once one was changed by the caller", what)
		}
		spoil(&g)
		if second.text() != told {
			t.Errorf("%s: an answer hangs on what was handed in, later on", what)
		}
	}
}

// TestListsOfOneAnswer share no memory with each other.
func TestListsOfOneAnswer(t *testing.T) {
	x := withValidators(103, members(10, full)...)
	x.Balances = slices.Repeat([]uint64{7 * gwei}, 10)
	x.Scores = x.Balances // as they may be handed in
	x.Current = x.Previous
	a := askAll(given{X: x, I: 5, P: headersOf(103, 5), A: doubleOf([]uint64{5}, []uint64{5})})
	if a.Errors != [4]api.Errno{} {
		t.Fatalf("errors %d", a.Errors)
	}
	for i, y := range []api.State{a.Leave, a.Slash, a.Proposer, a.Attester} {
		y.Balances[0], y.Previous[0] = 9, 9
		if slices.ContainsFunc(y.Scores, func(n uint64) bool { return n != 7*gwei }) || y.Current[0] == 9 || x.Balances[0] != 7*gwei {
			t.Errorf("answer %d: two lists share memory", i)
		}
	}
}

// TestRoomIsNotThere: what stands behind the ends of lists doesn't count.
func TestRoomIsNotThere(t *testing.T) {
	x := withValidators(103, members(16, full)...)
	for i := 9; i < 16; i++ {
		x.Validators[i].Exit = 1000
	}
	n := 9
	x.Validators, x.Balances, x.Previous, x.Current, x.Scores = x.Validators[:n], x.Balances[:n], x.Previous[:n], x.Current[:n], x.Scores[:n]
	if y := wantLeave(t, "nine of 16", x, 5); y.Validators[5].Exit != 28 {
		t.Errorf("the exits behind the end count: %d", y.Validators[5].Exit)
	}
	wantNoLeave(t, "one behind the end", x, 9, api.ErrArg)
	wantSlash(t, "nine of 16", x, 5)
	wantNoSlash(t, "one behind the end", x, 9, api.ErrArg)
	wantNoProposer(t, "one behind the end", x, headersOf(103, 9), nil, api.BadWho)
	long := []uint64{3, 5, 7, 7, 100}
	s := doubleOf(nil, nil)
	s.One.Who, s.Two.Who = long[:2], long[1:3]
	wantAttester(t, "lists with others behind their ends", x, s, nil, 5)
	s.Two.Who = make([]uint64, 100)[:0]
	wantNoAttester(t, "an empty list with room", x, s, nil, api.BadList, askedOfAttest(x, s.One))
	bad := append(rootsOf("question", 3), askedOfHeaders(x, headersOf(103, 5))...)
	wantProposer(t, "bad behind the end", x, headersOf(103, 5), bad[:3])
	s = doubleOf(long[:2], long[:2])
	bad = append(rootsOf("question", 3), askedOfAttests(x, s)...)
	wantAttester(t, "bad behind the end", x, s, bad[:3], 3, 5)
}

// TestNothingIsKept: what its owner changes between two calls counts for the second.
func TestNothingIsKept(t *testing.T) {
	x := withValidators(103, members(16, full)...)
	p, a := headersOf(103, 5), doubleOf([]uint64{3, 5}, []uint64{5, 7})
	bad := []api.Root{askedOfHeader(x, p.One), askedOfAttest(x, a.One)}
	wantNoProposer(t, "at first", x, p, bad, api.BadSig, bad[0])
	wantNoAttester(t, "at first", x, a, bad, api.BadSig, bad[1])
	bad[0], bad[1] = api.Root{}, api.Root{}
	wantProposer(t, "no more bad", x, p, bad)
	wantAttester(t, "no more bad", x, a, bad, 5)
	wantLeave(t, "at first", x, 5)
	x.Validators[0].Exit, x.Validators[1].Exit = 40, 40
	if y := wantLeave(t, "others leave by now", x, 5); y.Validators[5].Exit != 41 {
		t.Errorf("Exit %d", y.Validators[5].Exit)
	}
	a.Two.Who[0] = 3
	wantAttester(t, "another one is in both", x, a, bad, 3)
	x.Validators[5].Slashed = true
	wantNoProposer(t, "slashed by now", x, p, bad, api.BadSlashed)
	x.Mixes[7] = rootOf("another mix", 0) // and so perhaps another proposer
	wantSlash(t, "another mix", x, 4)
	x.Validators[4].Effective = 7 * gwei
	wantSlash(t, "another balance", x, 4)
}

// TestByChance: many states and slashings, mostly such as are taken.
func TestByChance(t *testing.T) {
	r := rand.New(rand.NewPCG(18, 1))
	seen := map[api.Errno]int{}
	for range 3000 {
		x := stateByChance(r)
		mustRight(t, x)
		n := uint64(len(x.Validators))
		i := r.Uint64N(n)
		wantLeave(t, "by chance", x, i)
		wantSlash(t, "by chance", x, i)
		p, a := slashingsByChance(r, n)
		var bad []api.Root
		if r.IntN(3) == 0 {
			for _, asked := range [][]api.Root{plainProposers(x, p, nil).asked, plainAttesters(x, a, nil).asked} {
				if len(asked) > 0 {
					bad = append(bad, asked[r.IntN(len(asked))])
				}
			}
		}
		want := plainProposers(x, p, bad)
		got, asked, err := slash.Proposer(x, p, bad)
		wantAnswer(t, fmt.Sprint("Proposer by chance, ", p), answer{got, asked, err}, want)
		seen[want.err]++
		want = plainAttesters(x, a, bad)
		got, asked, err = slash.Attester(x, a, bad)
		wantAnswer(t, fmt.Sprint("Attester by chance, ", a), answer{got, asked, err}, want)
		seen[want.err]++
		if t.Failed() {
			return
		}
	}
	for _, err := range []api.Errno{api.OK, api.ErrNone, api.ErrOver, api.ErrLong, api.BadSlot, api.BadWho, api.BadSame, api.BadSlashed, api.BadSig, api.BadList} {
		if seen[err] == 0 {
			t.Errorf("the error %d was never met", err)
		}
	}
}

func stateByChance(r *rand.Rand) api.State {
	validators := members(1+r.IntN(20), 0)
	for i := range validators {
		v := &validators[i]
		v.Effective, v.Slashed = r.Uint64N(33)*gwei, r.IntN(5) == 0
		v.Activation, v.Exit, v.Withdrawable = 24+r.Uint64N(3), oneOf(r, 25, 26, 28, 29, 30, far, far, far, far), oneOf(r, 25, 26, 30, 33, 34, far, far)
		if r.IntN(40) == 0 {
			v.Exit = lastEpoch - r.Uint64N(4)
		}
	}
	x := withValidators(96+r.Uint64N(12), validators...)
	for k := range x.Mixes {
		x.Mixes[k] = rootOf("chance", r.Int())
	}
	for i := range x.Balances {
		x.Balances[i] = oneOf(r, 0, 1, sixteenth, half, half+1, gwei, 17*gwei, 32*gwei)
	}
	if r.IntN(8) == 0 {
		x.Balances[0] = 0
		x.Balances[0] = most - sum(x.Balances) - r.Uint64N(2)*half
	}
	if r.IntN(8) == 0 {
		x.Slashings = [8]uint64{2: most - r.Uint64N(70)*gwei}
	}
	return x
}

func oneOf(r *rand.Rand, l ...uint64) uint64 { return l[r.IntN(len(l))] }

func sum(l []uint64) uint64 {
	all := uint64(0)
	for _, n := range l {
		all += n
	}
	return all
}

// slashingsByChance of so many validators, and of one that is none at times.
func slashingsByChance(r *rand.Rand, n uint64) (api.ProposerSlashing, api.AttesterSlashing) {
	p := headersOf(oneOf(r, 3, 39, 40, 103), r.Uint64N(n))
	switch r.IntN(16) {
	case 0:
		p.Two.Header.Slot++
	case 1:
		p.Two.Header.Proposer++
	case 2:
		p.Two.Header = p.One.Header
	case 3:
		p.One.Header.Proposer, p.Two.Header.Proposer = n, n
	}
	a := doubleOf(whoByChance(r, n), whoByChance(r, n))
	switch r.IntN(8) {
	case 0:
		a.Two.Data = a.One.Data
	case 1, 2:
		a.One.Data, a.Two.Data = dataOf(r.Uint64N(4), 8+r.Uint64N(4)), dataOf(r.Uint64N(4), 8+r.Uint64N(4))
	}
	return p, a
}

// whoByChance, mostly rising.
func whoByChance(r *rand.Rand, n uint64) []uint64 {
	var who []uint64
	for i := range n {
		if r.IntN(2) == 0 {
			who = append(who, i)
		}
	}
	switch r.IntN(24) {
	case 0:
		who = append(who, n)
	case 1:
		who = append(who, 0)
	case 2:
		who = nil
	case 3:
		who = append(who, upTo(n, 66)...)
	}
	return who
}

// TestStatesBehindAreRight, and a call to them goes on from there.
func TestStatesBehindAreRight(t *testing.T) {
	x := withValidators(103, members(40, full)...)
	for i := range uint64(40) {
		switch i % 4 {
		case 0:
			x = wantLeave(t, "in a row", x, i)
		case 1:
			x = wantSlash(t, "in a row", x, i)
		case 2:
			x = wantProposer(t, "in a row", x, headersOf(103, i), nil)
		default:
			x = wantAttester(t, "in a row", x, doubleOf([]uint64{i}, []uint64{i}), nil, i)
		}
		if x.Validators[i].Exit != 28+i/2 || !state.Right(x) {
			t.Fatalf("%d: Exit %d", i, x.Validators[i].Exit)
		}
		x.Validators[i].Key[0]++ // the answer is the caller's
	}
}

// Nothing is kept from call to call, and calls side by side don't meet.
func TestCallsSideBySide(t *testing.T) {
	x := withValidators(103, members(40, full)...)
	a, bad := doubleOf(upTo(3, 9), upTo(5, 9)), rootsOf("question", 5)
	var wait sync.WaitGroup
	for i := range uint64(24) {
		wait.Go(func() {
			wantLeave(t, "side by side", x, i)
			wantSlash(t, "side by side", x, i)
			wantProposer(t, "side by side", x, headersOf(103, i), bad)
			wantAttester(t, "side by side", x, a, bad, upTo(5, 7)...)
		})
	}
	wait.Wait()
}
