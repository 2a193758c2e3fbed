package join_test

import (
	"fmt"
	"slices"
	"testing"

	"pharos/api"
	"pharos/join"
	"pharos/state"
)

// P20.2

// none: indices at which there are no validators.
func none(n int) []uint64 {
	return []uint64{uint64(n), uint64(n) + 1, 1 << 16, 1<<32 | uint64(n-1), 1<<63 | uint64(n-1), top, top - 1}
}

func TestExitOfSlotsAndNumbers(t *testing.T) {
	for _, n := range []int{1, 2, 3, 16, 300} {
		for _, slot := range someSlots() {
			x := withValidators(slot, members(n, uint64(17+slot%16))...)
			for _, i := range []int{0, n / 2, n - 1} {
				what := fmt.Sprintf("slot %d, %d of %d", slot, i, n)
				e := exitOf(slot/4, uint64(i))
				if slot < 8 {
					wantNoExit(t, what, x, e, nil, api.BadDelay)
					continue
				}
				y := wantExit(t, what, x, e, nil)
				want := x.Validators[i]
				want.Exit, want.Withdrawable = slot/4+3, slot/4+5
				if y.Validators[i] != want || !slices.Equal(y.Balances, x.Balances) {
					t.Errorf("%s: %v, balances %d", what, y.Validators[i], y.Balances)
				}
			}
			for _, i := range none(n) {
				wantNoExit(t, fmt.Sprintf("slot %d, %d of %d", slot, i, n), x, exitOf(slot/4, i), nil, api.BadWho)
			}
		}
	}
	for _, i := range []uint64{0, 1, top} {
		wantNoExit(t, "nobody is there", withValidators(103), exitOf(0, i), nil, api.BadWho)
		wantNoExit(t, "the zero state", api.State{}, exitOf(0, i), nil, api.BadWho)
	}
}

// TestExitOfAllKinds: who isn't active, who leaves already, and who came too late. Whether it is slashed, how much it has, and its other epochs count nothing.
func TestExitOfAllKinds(t *testing.T) {
	epochs := []uint64{0, 22, 23, 24, 25, 26, 27, 28, 1000, lastEpoch, far}
	for a, activation := range epochs {
		for b, exit := range epochs {
			for k, slashed := range []bool{false, true} {
				v := member(uint64(31*k+1), activation, exit)
				v.Slashed, v.Eligible, v.Withdrawable = slashed, epochs[(a+b+k)%len(epochs)], epochs[(a+2*b+3*k)%len(epochs)]
				x := withValidators(103, append(members(3, full), v)...)
				mustRight(t, x)
				e := exitOf(25, 3)
				switch {
				case activation > 25 || exit < 26:
					wantNoExit(t, fmt.Sprint("not active: ", v), x, e, nil, api.BadWho)
				case exit != far:
					wantNoExit(t, fmt.Sprint("leaves already: ", v), x, e, nil, api.BadExit)
				case activation > 23:
					wantNoExit(t, fmt.Sprint("came too late: ", v), x, e, nil, api.BadDelay)
				default:
					y := wantExit(t, fmt.Sprint(v), x, e, nil)
					if got := y.Validators[3]; got.Exit != 28 || got.Withdrawable != 30 || got.Slashed != slashed {
						t.Errorf("%v: %v", v, got)
					}
				}
			}
		}
	}
}

// TestExitDelay: two epochs behind the activation, and not one less, in the first epochs and the last ones.
func TestExitDelay(t *testing.T) {
	for _, slot := range someSlots() {
		epoch := slot / 4
		for back := range uint64(5) {
			if back > epoch {
				break
			}
			x := withValidators(slot, member(full, epoch-back, far), member(full, 0, far))
			what, e := fmt.Sprintf("slot %d, %d epochs behind its activation", slot, back), exitOf(epoch, 0)
			if back < 2 {
				wantNoExit(t, what, x, e, nil, api.BadDelay)
			} else {
				wantExit(t, what, x, e, nil)
			}
		}
		for ahead := range uint64(3) {
			if epoch+ahead+1 > lastEpoch {
				break
			}
			x := withValidators(slot, member(full, epoch+ahead+1, far))
			wantNoExit(t, fmt.Sprintf("slot %d, %d epochs ahead of its activation", slot, ahead+1), x, exitOf(epoch, 0), nil, api.BadWho)
		}
		x := withValidators(slot, member(full, far, far)) // the sum doesn't fit 64 bits
		wantNoExit(t, fmt.Sprintf("slot %d, never active", slot), x, exitOf(epoch, 0), nil, api.BadWho)
	}
}

// TestExitEpoch: at the epoch or ahead of it, however long.
func TestExitEpoch(t *testing.T) {
	for _, slot := range []uint64{8, 9, 36, 39, 40, 100, 103, 1 << 32, lastSlot} {
		x, epoch := withValidators(slot, members(3, full)...), slot/4
		for _, of := range []uint64{0, 1, 2, epoch / 2, epoch - 2, epoch - 1, epoch} {
			y := wantExit(t, fmt.Sprintf("slot %d, Epoch %d", slot, of), x, exitOf(of, 1), nil)
			if y.Validators[1].Exit != epoch+3 { // by the state's epoch, not the exit's
				t.Errorf("slot %d, Epoch %d: Exit %d", slot, of, y.Validators[1].Exit)
			}
		}
		for _, of := range []uint64{epoch + 1, epoch + 2, epoch + 3, slot, slot + 1, 1 << 60, 1<<63 | epoch, 1<<32<<8 + epoch, top - 1, top} {
			wantNoExit(t, fmt.Sprintf("slot %d, Epoch %d", slot, of), x, exitOf(of, 1), nil, api.BadEpoch)
		}
	}
}

// TestExitQueue: empty, filling up and full, of more validators and of fewer.
func TestExitQueue(t *testing.T) {
	for n, churn := range map[int]int{1: 2, 2: 2, 3: 2, 31: 2, 64: 2, 95: 2, 96: 3, 127: 3, 128: 4, 160: 5} {
		x := withValidators(103, members(n, full)...)
		for k := range min(n, 3*churn+1) {
			i := uint64(k*7) % uint64(n)
			for x.Validators[i].Exit != far {
				i = (i + 1) % uint64(n)
			}
			what := fmt.Sprintf("%d of %d behind %d others", i, n, k)
			x = wantExit(t, what, x, exitOf(25, i), nil)
			if want := uint64(28 + k/churn); x.Validators[i].Exit != want || x.Validators[i].Withdrawable != want+2 {
				t.Fatalf("%s: %v; want the Exit %d", what, x.Validators[i], want)
			}
			wantNoExit(t, what+", again", x, exitOf(25, i), nil, api.BadExit)
		}
	}
	for _, c := range []struct {
		exits []uint64
		want  uint64
	}{
		{[]uint64{0, 2, 2, 2, 25, 25}, 28}, {[]uint64{26, 26, 26, 27, 27, 27}, 28}, {[]uint64{28}, 28}, {[]uint64{28, 28}, 29}, {[]uint64{28, 28, 28, 28}, 29},
		{[]uint64{29, 28, 28}, 29}, {[]uint64{29, 28, 29}, 30}, {[]uint64{1000}, 1000}, {[]uint64{1000, 28, 1000}, 1001}, {[]uint64{1 << 32, 28}, 1 << 32},
	} {
		for place := range len(c.exits) + 1 {
			x := withValidators(103, slices.Insert(leavers(c.exits...), place, member(full, 0, far))...)
			y := wantExit(t, fmt.Sprintf("behind %d, at %d", c.exits, place), x, exitOf(25, uint64(place)), nil)
			if v := y.Validators[place]; v.Exit != c.want || v.Withdrawable != c.want+2 {
				t.Errorf("behind %d, at %d: %v; want the Exit %d", c.exits, place, v, c.want)
			}
		}
	}
}

// TestExitAtTheBound: what wouldn't be right is refused behind all, and what was asked is told.
func TestExitAtTheBound(t *testing.T) {
	for _, c := range []struct {
		exits []uint64
		want  api.Errno
	}{
		{[]uint64{lastEpoch}, api.ErrOver}, {[]uint64{lastEpoch, lastEpoch}, api.ErrOver}, {[]uint64{lastEpoch - 1}, api.ErrOver}, {[]uint64{lastEpoch - 2}, api.OK},
		{[]uint64{lastEpoch - 2, lastEpoch - 2}, api.ErrOver}, {[]uint64{lastEpoch - 3, lastEpoch - 3, 28, far}, api.OK}, {[]uint64{28, lastEpoch, lastEpoch}, api.ErrOver},
	} {
		validators := append(leavers(c.exits...), member(full, 0, far))
		for i := range validators {
			validators[i].Withdrawable = far
		}
		x := withValidators(103, validators...)
		mustRight(t, x)
		e := exitOf(25, uint64(len(c.exits)))
		q := askedOfExit(x, e)
		if c.want == api.OK {
			wantExit(t, fmt.Sprint("behind ", c.exits), x, e, nil)
		} else {
			wantNoExit(t, fmt.Sprint("behind ", c.exits), x, e, nil, c.want, q)
		}
		wantNoExit(t, fmt.Sprint("bad, behind ", c.exits), x, e, []api.Root{q}, api.BadSig, q)
		wantNoExit(t, fmt.Sprint("one who leaves already, of ", c.exits), x, exitOf(25, 0), nil, api.BadExit)
	}
}

// exitFault is what may be wrong with a state, with an exit for it, or with its signature.
type exitFault struct {
	want  api.Errno
	of    func(x *api.State, e *api.SignedExit)
	isBad bool
	asked bool
}

// exitFaults in the order of the promise, of the validator 5 of 16 in the epoch 25.
func exitFaults() []exitFault {
	return []exitFault{
		{want: api.ErrArg, of: func(x *api.State, e *api.SignedExit) { x.Final.Epoch = 26 }},
		{want: api.BadWho, of: func(x *api.State, e *api.SignedExit) { e.Exit.Validator = 16 }},
		{want: api.BadWho, of: func(x *api.State, e *api.SignedExit) { x.Validators[5].Activation = 26 }},
		{want: api.BadExit, of: func(x *api.State, e *api.SignedExit) { x.Validators[5].Exit = 28 }},
		{want: api.BadEpoch, of: func(x *api.State, e *api.SignedExit) { e.Exit.Epoch = 26 }},
		{want: api.BadDelay, of: func(x *api.State, e *api.SignedExit) {
			x.Validators[5].Activation = max(24, x.Validators[5].Activation)
		}},
		{want: api.BadSig, isBad: true, asked: true},
		{want: api.ErrOver, asked: true, of: func(x *api.State, e *api.SignedExit) { x.Validators[9].Exit = lastEpoch }},
	}
}

// TestExitRefusals: each by itself, two at once, and all others that there are together: the first one is answered.
func TestExitRefusals(t *testing.T) {
	all := exitFaults()
	for which := range 1 << len(all) {
		x, e := withValidators(103, members(16, full)...), exitOf(25, 5)
		what, first, isBad := "wrong:", -1, false
		for i, f := range all {
			if which>>i&1 == 0 {
				continue
			}
			if what += fmt.Sprintf(" %d (%d)", i, f.want); first < 0 {
				first = i
			}
			if f.of != nil {
				f.of(&x, &e)
			}
			isBad = isBad || f.isBad
		}
		there := e
		there.Exit.Validator = 5
		q := askedOfExit(x, there)
		bad := rootsOf("another question", 2)
		if isBad {
			bad = append(bad, q)
		}
		switch {
		case first < 0:
			wantExit(t, what, x, e, bad)
		case all[first].asked:
			wantNoExit(t, what, x, e, bad, all[first].want, q)
		default:
			wantNoExit(t, what, x, e, bad, all[first].want)
		}
	}
}

// TestExitOfOneWhoHasLeft: it has an Exit that isn't Far too; that it isn't active is told first.
func TestExitOfOneWhoHasLeft(t *testing.T) {
	for _, exit := range []uint64{0, 1, 24, 25} {
		x := withValidators(103, append(members(3, full), member(full, 0, exit))...)
		wantNoExit(t, fmt.Sprint("Exit ", exit), x, exitOf(25, 3), nil, api.BadWho)
		wantNoExit(t, fmt.Sprint("too early, Exit ", exit), x, exitOf(26, 3), nil, api.BadWho)
	}
}

func TestExitOfABadQuestion(t *testing.T) {
	for _, i := range []uint64{0, 7, 15} {
		x := withValidators(103, members(16, full)...)
		e := exitOf(24, i)
		q := askedOfExit(x, e)
		for at := range 4 {
			bad := slices.Insert(rootsOf("another question", 3), at, q)
			wantNoExit(t, fmt.Sprintf("%d, bad at %d", i, at), x, e, bad, api.BadSig, q)
		}
		e.Sig[95]++
		wantExit(t, "another signature", x, e, []api.Root{q})
	}
}

// TestExitOfBadOnesThatArentAsked: almost the same, and those of another domain, of another one, or of the exit's parts.
func TestExitOfBadOnesThatArentAsked(t *testing.T) {
	x := withValidators(103, members(16, full)...)
	e := exitOf(24, 5)
	q := askedOfExit(x, e)
	var bad []api.Root
	for at := range q {
		near := q
		near[at] ^= 1 << (at % 8)
		bad = append(bad, near)
	}
	bad = append(bad, askedOfExit(x, exitOf(25, 5)), askedOfExit(x, exitOf(24, 6)), askedOfExit(x, exitOf(24, 4)))
	keys, root := []api.Key{keyOf(5)}, plainExitRoot(e.Exit)
	for _, kind := range []byte{0, 1, 2, 3, 7} {
		bad = append(bad, plainQuestion(keys, root, plainDomain(x, kind, 24), e.Sig))
	}
	bad = append(bad, plainQuestion(keys, root, plainDomain(x, 4, 9), e.Sig)) // that ahead of the fork
	bad = append(bad, plainQuestion(nil, root, plainDomain(x, 4, 24), e.Sig), plainQuestion([]api.Key{keyOf(4)}, root, plainDomain(x, 4, 24), e.Sig), root, api.Root{})
	wantExit(t, "bad ones that aren't asked", x, e, bad)
}

// TestExitDomain: of the exit's epoch, ahead of the fork, at it and behind it.
func TestExitDomain(t *testing.T) {
	x := withValidators(103, members(16, full)...)
	for _, fork := range []uint64{0, 1, 10, 24, 25, 26, 1 << 62, top} {
		x.Fork.Epoch = fork
		for _, of := range []uint64{0, 1, 9, 10, 11, 23, 24, 25} {
			wantExit(t, fmt.Sprintf("a fork of epoch %d, Epoch %d", fork, of), x, exitOf(of, 5), nil)
		}
	}
}

// TestExitAsks something else of all other keys, signatures, epochs, validators, versions and roots.
func TestExitAsks(t *testing.T) {
	x := withValidators(103, members(16, full)...)
	questions := map[api.Root]int{}
	ask := func(what string, x api.State, e api.SignedExit) {
		wantExit(t, what, x, e, nil)
		_, asked, _ := join.Exit(x, e, nil)
		if len(asked) != 1 {
			t.Fatalf("%s: asked %x", what, asked)
		}
		questions[asked[0]]++
	}
	e := exitOf(20, 5)
	want := 0
	for what, b := range map[string][]byte{"the key": x.Validators[5].Key[:], "the signature": e.Sig[:], "the version": x.Fork.Current[:], "the genesis": x.GenesisRoot[:]} {
		for i := range b {
			b[i]++
			ask(fmt.Sprintf("another byte %d of %s", i, what), x, e)
			b[i]--
			want++
		}
	}
	for i := range uint64(26) { // with both domains
		ask(fmt.Sprint("Epoch ", i), x, api.SignedExit{Exit: api.Exit{Epoch: i, Validator: 5}, Sig: e.Sig})
		want++
	}
	for i := range uint64(16) {
		if i != 5 {
			x.Validators[i].Key = x.Validators[5].Key
			ask(fmt.Sprint("Validator ", i), x, api.SignedExit{Exit: api.Exit{Epoch: 20, Validator: i}, Sig: e.Sig})
			want++
		}
	}
	x.Fork.Previous[0]++
	ask("another version ahead of the fork", x, e)
	if len(questions) != want {
		t.Errorf("%d questions; want %d", len(questions), want)
	}
}

func TestExitOfStatesThatArentRight(t *testing.T) {
	for what, x := range notRight(t, withValidators(103, members(16, full)...)) {
		for _, e := range []api.SignedExit{exitOf(25, 0), exitOf(25, 15), exitOf(26, 3), exitOf(25, 16), exitOf(0, top), {}} {
			wantNoExit(t, what, x, e, nil, api.ErrArg)
			if e.Exit.Validator < 15 {
				wantNoExit(t, what+", bad", x, e, []api.Root{askedOfExit(withValidators(103, members(16, full)...), e)}, api.ErrArg)
			}
		}
	}
	over := withValidators(103, leavers(lastEpoch, lastEpoch, far)...)
	if state.Right(over) {
		t.Fatal("the test's own state is right")
	}
	wantNoExit(t, "behind which it wouldn't be right either", over, exitOf(25, 2), nil, api.ErrArg)
}

func TestExitOfAFullRegistry(t *testing.T) {
	x := fullRegistry(0)
	last := uint64(1<<16 - 1)
	y := wantExit(t, "the last of all", x, exitOf(25, last), nil)
	wantNoExit(t, "one behind all", x, exitOf(25, last+1), nil, api.BadWho)
	for i := range 2047 { // with the last one the churn, of 2048, is reached
		y.Validators[i].Exit = 28
	}
	if z := wantExit(t, "the churn is reached", y, exitOf(25, 40000), nil); z.Validators[40000].Exit != 29 {
		t.Errorf("the churn is reached: Exit %d", z.Validators[40000].Exit)
	}
	y.Validators[0].Exit = 27
	if z := wantExit(t, "the churn isn't reached", y, exitOf(25, 40000), nil); z.Validators[40000].Exit != 28 {
		t.Errorf("the churn isn't reached: Exit %d", z.Validators[40000].Exit)
	}
}
