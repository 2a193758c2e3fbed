package choir_test

import (
	"fmt"
	"slices"
	"strings"
	"testing"

	"pharos/api"
	"pharos/choir"
)

// P21.2

// The chapter's example.

func TestSyncExamples(t *testing.T) {
	for _, bad := range [][]api.Root{nil, {askedOf(withValidators(103, members(16, full)...), nobodySigns())}} {
		x := withCommittee(withValidators(103, members(16, full)...), 3, 3, 5, 3, 0, 15, 15, 7)
		share, _ := wantShares(t, "of 16", x)
		y := wantSync(t, "nobody signs", x, nobodySigns(), bad)
		for i, times := range []uint64{1, 0, 0, 3, 0, 1, 0, 1, 0, 0, 0, 0, 0, 0, 0, 2} {
			if y.Balances[i] != x.Balances[i]-times*share {
				t.Errorf("balance of %d from %d to %d; stands there %d times", i, x.Balances[i], y.Balances[i], times)
			}
		}
		if _, asked, _ := choir.Sync(x, nobodySigns(), bad); len(asked) != 0 {
			t.Errorf("asked %x", asked)
		}
	}
}

// TestSyncOfSlots: at 0 there is no slot ahead; at an epoch's first one it is of the epoch ahead.
func TestSyncOfSlots(t *testing.T) {
	for _, n := range []int{8, 9, 16, 300} {
		for k, slot := range someSlots() {
			x := withCommittee(withValidators(slot, members(n, 32)...), n-1, n-2, n-3, n-4, 0, 1, 2, 3)
			for what, a := range map[string]api.SyncAggregate{"nobody": nobodySigns(), "some": eachBits()[(7*k+5)%256], "all": signedBy("xxxxxxxx"), "nobody, but it says otherwise": signedBy("")} {
				what = fmt.Sprintf("slot %d, %d validators, %s", slot, n, what)
				if slot == 0 {
					wantNoSync(t, what, x, a, nil, api.BadSlot)
				} else {
					wantSync(t, what, x, a, nil)
				}
			}
		}
	}
}

// TestSyncOfSlotZero: whatever else is wrong, and nothing is asked.
func TestSyncOfSlotZero(t *testing.T) {
	x := withValidators(0, members(16, full)...)
	for what, x := range map[string]api.State{"the zero state": {}, "nobody is there": withValidators(0), "some": x, "nobody has the keys": withCommittee(x, 500, 501), "none active": withValidators(0, member(full, 1, far))} {
		for _, a := range []api.SyncAggregate{{}, nobodySigns(), signedBy("x"), signedBy("xxxxxxxx")} {
			wantNoSync(t, what, x, a, []api.Root{askedOf(x, a)}, api.BadSlot)
		}
	}
}

// TestSyncOfEachSetOfBits: who signs is given a share, who doesn't loses one, and for each who signs the proposer has its part.
func TestSyncOfEachSetOfBits(t *testing.T) {
	x := withCommittee(withValidators(103, members(16, full)...), 8, 1, 15, 3, 0, 12, 5, 7)
	proposer, _ := plainProposer(x)
	share, more := wantShares(t, "of 16", x)
	for _, a := range eachBits() {
		what := fmt.Sprint("bits ", a.Bits)
		y := wantSync(t, what, x, a, nil)
		want := slices.Clone(x.Balances)
		for i, who := range []int{8, 1, 15, 3, 0, 12, 5, 7} {
			if a.Bits[i] {
				want[who] += share
				want[proposer] += more
			} else {
				want[who] -= share
			}
		}
		if !slices.Equal(y.Balances, want) {
			t.Errorf("%s: balances %d; want %d", what, y.Balances, want)
		}
		wantNoSync(t, what+", bad", x, a, []api.Root{askedOf(x, a)}, api.BadSig, askedOf(x, a))
	}
}

// TestSyncOfAnEmptySignature: just that one, and just without bits, isn't asked for.
func TestSyncOfAnEmptySignature(t *testing.T) {
	x := withValidators(103, members(16, full)...)
	want := wantSync(t, "nobody signs", x, nobodySigns(), []api.Root{askedOf(x, nobodySigns())})
	for at := range 96 {
		for bit := range 8 {
			a := nobodySigns()
			a.Sig[at] ^= 1 << bit
			what, q := fmt.Sprintf("byte %d, bit %d", at, bit), askedOf(x, a)
			if y := wantSync(t, what, x, a, nil); !sameState(t, y, want) {
				t.Errorf("%s: another state", what)
			}
			wantNoSync(t, what+", bad", x, a, []api.Root{q}, api.BadSig, q)
		}
	}
	for _, a := range eachBits()[1:] {
		a.Sig = api.Sig{192}
		q := askedOf(x, a)
		wantSync(t, fmt.Sprint("bits ", a.Bits), x, a, nil)
		wantNoSync(t, fmt.Sprint("bad, bits ", a.Bits), x, a, []api.Root{q}, api.BadSig, q)
	}
	for what, a := range map[string]api.SyncAggregate{"zeros": {}, "192 at the end": {Sig: api.Sig{95: 192}}, "192 all over": {Sig: api.Sig(slices.Repeat([]byte{192}, 96))}} {
		q := askedOf(x, a)
		wantSync(t, what, x, a, nil)
		wantNoSync(t, what+", bad", x, a, []api.Root{q}, api.BadSig, q)
	}
}

// TestSyncOfABadQuestion wherever it stands among the bad ones.
func TestSyncOfABadQuestion(t *testing.T) {
	x := withValidators(103, members(16, full)...)
	for _, a := range []api.SyncAggregate{{}, signedBy(""), signedBy("x"), signedBy(".......x"), signedBy("x.xx..x"), signedBy("xxxxxxxx")} {
		q := askedOf(x, a)
		for at := range 4 {
			bad := slices.Insert(rootsOf("another question", 3), at, q)
			wantNoSync(t, fmt.Sprintf("%v, bad at %d", a.Bits, at), x, a, bad, api.BadSig, q)
		}
		a.Sig[95]++
		wantSync(t, "another signature", x, a, []api.Root{q})
	}
}

// TestSyncOfBadOnesThatArentAsked: almost the same, and those of another domain, root, committee, or of other bits.
func TestSyncOfBadOnesThatArentAsked(t *testing.T) {
	x := withValidators(103, members(16, full)...)
	a := signedBy("x.xx...x")
	q := askedOf(x, a)
	var bad []api.Root
	for at := range q {
		near := q
		near[at] ^= 1 << (at % 8)
		bad = append(bad, near)
	}
	for _, other := range eachBits() {
		other.Sig = a.Sig
		if other.Bits != a.Bits {
			bad = append(bad, askedOf(x, other))
		}
	}
	keys := []api.Key{keyOf(0), keyOf(2), keyOf(3), keyOf(7)}
	root := x.BlockRoots[6]
	for _, kind := range []byte{0, 1, 2, 3, 4, 5, 6, 8} {
		bad = append(bad, plainQuestion(keys, root, plainDomain(x, kind, 25), a.Sig))
	}
	for i, other := range x.BlockRoots {
		if i != 6 {
			bad = append(bad, plainQuestion(keys, other, plainDomain(x, 7, 25), a.Sig))
		}
	}
	bad = append(bad, plainQuestion(keys, root, plainDomain(x, 7, 9), a.Sig), plainQuestion(x.Sync.Keys[:], root, plainDomain(x, 7, 25), a.Sig), plainQuestion([]api.Key{x.Sync.Sum}, root, plainDomain(x, 7, 25), a.Sig))
	slices.Reverse(keys)
	bad = append(bad, plainQuestion(keys, root, plainDomain(x, 7, 25), a.Sig), askedOf(x, nobodySigns()), root, api.Root{})
	wantSync(t, "bad ones that aren't asked", x, a, bad)
}

// TestSyncAsksForKeys in the committee's order, and as often as they stand there.
func TestSyncAsksForKeys(t *testing.T) {
	x := withValidators(103, members(16, full)...)
	root, domain := x.BlockRoots[6], plainDomain(x, 7, 25)
	for _, c := range []struct {
		committee []int
		bits      string
		asked     []int
	}{
		{[]int{0, 1, 2, 3, 4, 5, 6, 7}, "xxxxxxxx", []int{0, 1, 2, 3, 4, 5, 6, 7}}, {[]int{7, 6, 5, 4, 3, 2, 1, 0}, "xxxxxxxx", []int{7, 6, 5, 4, 3, 2, 1, 0}},
		{[]int{7, 6, 5, 4, 3, 2, 1, 0}, "x......x", []int{7, 0}}, {[]int{9, 3, 12, 1, 0, 15, 4, 8}, ".xx.x.x.", []int{3, 12, 0, 4}}, {[]int{9, 3, 12, 1, 0, 15, 4, 8}, "........", nil},
		{[]int{3, 3, 3, 3, 3, 3, 3, 3}, "xxxxxxxx", []int{3, 3, 3, 3, 3, 3, 3, 3}}, {[]int{3, 3, 3, 3, 3, 3, 3, 3}, "...x....", []int{3}},
		{[]int{5, 2, 5, 2, 5, 2, 5, 2}, "xx.xx...", []int{5, 2, 2, 5}}, {[]int{5, 1, 2, 3, 4, 6, 7, 5}, "x......x", []int{5, 5}}, {[]int{5, 1, 2, 3, 4, 6, 7, 5}, "x.......", []int{5}},
	} {
		var keys []api.Key
		for _, k := range c.asked {
			keys = append(keys, keyOf(k))
		}
		a, y := signedBy(c.bits), withCommittee(x, c.committee...)
		what := fmt.Sprintf("%d, %s", c.committee, c.bits)
		wantSync(t, what, y, a, nil)
		if _, asked, _ := choir.Sync(y, a, nil); len(asked) != 1 || asked[0] != plainQuestion(keys, root, domain, a.Sig) {
			t.Errorf("%s: asked %x", what, asked)
		}
	}
}

// TestSyncAsksForTheSlotAhead: its block and its epoch's domain, ahead of the fork, at it and behind it.
func TestSyncAsksForTheSlotAhead(t *testing.T) {
	a := signedBy("xx")
	for _, fork := range []uint64{0, 1, 2, 10, 24, 25, 26, 1 << 38, 1 << 62, top} {
		for _, slot := range []uint64{1, 2, 3, 4, 5, 7, 8, 9, 39, 40, 41, 44, 96, 97, 99, 100, 101, 103, 104, 105, 1 << 40 / 2, lastSlot} {
			x := withValidators(slot, members(16, full)...)
			x.Fork.Epoch = fork
			version := x.Fork.Previous
			if (slot-1)/4 >= fork {
				version = x.Fork.Current
			}
			hash := plainTwo(chunk(version[:]), x.GenesisRoot)
			domain := api.Root(append([]byte{7, 0, 0, 0}, hash[:28]...))
			want := plainQuestion([]api.Key{keyOf(0), keyOf(1)}, rootOf("block", int((slot-1)%8)), domain, a.Sig)
			what := fmt.Sprintf("a fork of epoch %d, slot %d", fork, slot)
			wantSync(t, what, x, a, nil)
			if _, asked, _ := choir.Sync(x, a, nil); !slices.Equal(asked, []api.Root{want}) {
				t.Errorf("%s: asked %x; want %x", what, asked, want)
			}
		}
	}
}

// TestSyncAsks something else of all other keys, signatures, versions and roots.
func TestSyncAsks(t *testing.T) {
	x := withValidators(103, members(16, full)...)
	a := signedBy("x......x")
	questions := map[api.Root]int{}
	ask := func(what string) {
		wantSync(t, what, x, a, nil)
		_, asked, _ := choir.Sync(x, a, nil)
		if len(asked) != 1 {
			t.Fatalf("%s: asked %x", what, asked)
		}
		questions[asked[0]]++
	}
	want := 0
	for what, b := range map[string][]byte{"the signature": a.Sig[:], "the version": x.Fork.Current[:], "the genesis": x.GenesisRoot[:], "the block's root": x.BlockRoots[6][:]} {
		for i := range b {
			b[i]++
			ask(fmt.Sprintf("another byte %d of %s", i, what))
			b[i]--
			want++
		}
	}
	for _, who := range []int{0, 7} {
		for i := range 48 {
			x.Sync.Keys[who][i]++
			x.Validators[who].Key[i]++
			ask(fmt.Sprintf("another byte %d of the key %d", i, who))
			x.Sync.Keys[who][i]--
			x.Validators[who].Key[i]--
			want++
		}
	}
	if len(questions) != want {
		t.Errorf("%d questions; want %d", len(questions), want)
	}
}

// TestSyncAsksNothingElse: what plays no part in a question.
func TestSyncAsksNothingElse(t *testing.T) {
	x := withValidators(103, members(16, full)...)
	a := signedBy("xxx..x")
	want := askedOf(x, a)
	x.Header, x.StateRoots, x.NextSync = api.Header{}, [8]api.Root{}, api.Committee{}
	x.Sync.Sum, x.Fork.Previous = api.Key{}, api.Version{}
	x.Sync.Keys[3], x.Sync.Keys[7] = keyOf(12), keyOf(13)
	for i := range x.BlockRoots {
		if i != 6 {
			x.BlockRoots[i] = api.Root{}
		}
	}
	wantSync(t, "all else is changed", x, a, nil)
	if _, asked, _ := choir.Sync(x, a, nil); !slices.Equal(asked, []api.Root{want}) {
		t.Errorf("asked %x; want %x", asked, want)
	}
}

// TestSyncWithoutAProposer: told behind the question, and ahead of keys that nobody has.
func TestSyncWithoutAProposer(t *testing.T) {
	left := members(16, full)
	for i := range left {
		left[i].Exit = 25
	}
	for what, x := range map[string]api.State{"nobody is there": withValidators(103), "nobody has come yet": withValidators(103, slices.Repeat([]api.Validator{member(full, 26, far)}, 16)...), "all have left": withValidators(103, left...), "without balances": withValidators(100, members(16, 0)...)} {
		if _, ok := plainProposer(x); ok {
			t.Fatalf("%s: there is a proposer", what)
		}
		for _, committee := range [][]int{{0}, {500}, {0, 1, 2, 3, 4, 5, 6, 500}} {
			x = withCommittee(x, committee...)
			wantNoSync(t, what+", nobody signs", x, nobodySigns(), nil, api.ErrNone)
			for _, a := range []api.SyncAggregate{{}, signedBy(""), signedBy("x"), signedBy("xxxxxxxx")} {
				q := askedOf(x, a)
				wantNoSync(t, what, x, a, nil, api.ErrNone, q)
				wantNoSync(t, what+", bad", x, a, []api.Root{q}, api.BadSig, q)
			}
		}
	}
}

// TestSyncOfKeysThatNobodyHas: the first one, the last one, or another, with its bit set and not.
func TestSyncOfKeysThatNobodyHas(t *testing.T) {
	for place := range 8 {
		x := withValidators(103, members(16, full)...)
		x.Sync.Keys[place] = keyOf(16)
		wantNoSync(t, fmt.Sprintf("%d, nobody signs", place), x, nobodySigns(), nil, api.BadWho)
		for _, bits := range []string{"", "xxxxxxxx", "x.x.x.x.", ".x.x.x.x", strings.Repeat(".", place) + "x"} {
			a := signedBy(bits)
			q := askedOf(x, a)
			wantNoSync(t, fmt.Sprintf("%d, %s", place, bits), x, a, nil, api.BadWho, q)
			wantNoSync(t, fmt.Sprintf("%d, %s, bad", place, bits), x, a, []api.Root{q}, api.BadSig, q)
		}
	}
	x := withValidators(103, members(16, full)...)
	for at := range 48 { // one byte makes another one
		for _, place := range []int{0, 7} {
			x.Sync.Keys[place][at] ^= 0x80
			wantNoSync(t, fmt.Sprintf("%d, byte %d", place, at), x, nobodySigns(), nil, api.BadWho)
			x.Sync.Keys[place][at] ^= 0x80
		}
	}
	x.Sync = api.Committee{}
	wantNoSync(t, "keys of zeros", x, nobodySigns(), nil, api.BadWho)
	x.Validators[15].Key = api.Key{}
	if y := wantSync(t, "keys of zeros, and the last one has them", x, nobodySigns(), nil); y.Balances[15] >= x.Balances[15] {
		t.Errorf("balance %d", y.Balances[15])
	}
}

// TestSyncOfSeveralWithOneKey: the first of them is meant.
func TestSyncOfSeveralWithOneKey(t *testing.T) {
	for _, who := range [][]int{{0, 1}, {0, 15}, {1, 4}, {14, 15}, {2, 3, 5}, {8, 9, 10, 11, 12, 13, 14, 15}} {
		for _, a := range []api.SyncAggregate{nobodySigns(), signedBy("x"), signedBy("........"), signedBy("xxxxxxxx")} {
			x := withCommittee(withValidators(103, members(16, full)...), 500, 6, 6, 6, 6, 6, 6, 6)
			for _, i := range who {
				x.Validators[i].Key = keyOf(500)
			}
			x.Validators[who[0]].Activation, x.Validators[who[0]].Slashed = far, true // it needn't be active
			share, more := wantShares(t, "some", x)
			proposer, _ := plainProposer(x)
			y := wantSync(t, fmt.Sprint(who), x, a, nil)
			for _, i := range who {
				want := x.Balances[i]
				switch {
				case i == who[0] && a.Bits[0]:
					want += share
				case i == who[0]:
					want -= share
				}
				for k := range 8 {
					if a.Bits[k] && proposer == uint64(i) {
						want += more
					}
				}
				if y.Balances[i] != want {
					t.Errorf("%d have the key: balance of %d is %d; want %d", who, i, y.Balances[i], want)
				}
			}
		}
	}
}

// TestSyncOfAllKinds of members: whether one is active, slashed, or away already counts nothing.
func TestSyncOfAllKinds(t *testing.T) {
	for _, activation := range []uint64{0, 25, 26, far} {
		for _, exit := range []uint64{0, 25, 26, far} {
			for _, slashed := range []bool{false, true} {
				v := member(7, activation, exit)
				v.Withdrawable, v.Slashed = exit, slashed
				x := withCommittee(withValidators(103, append(members(3, full), v)...), 3, 3, 3, 3, 0, 1, 2, 0)
				for _, a := range []api.SyncAggregate{nobodySigns(), signedBy("xxxx"), signedBy("x..."), signedBy("xxxxxxxx")} {
					wantSync(t, fmt.Sprint(v), x, a, nil)
				}
			}
		}
	}
}
