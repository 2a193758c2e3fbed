package head_test

import (
	"fmt"
	"math/rand/v2"
	"slices"
	"sync"
	"testing"

	"pharos/api"
	"pharos/head"
	"pharos/state"
)

// someSlots of all remainders, in the first epochs, in those whose mixes come round again, around the fork, and the greatest one. At slot 0 there is no block.
func someSlots() []uint64 {
	return []uint64{1, 2, 3, 4, 5, 7, 8, 27, 28, 31, 32, 33, 35, 36, 39, 40, 41, 60, 63, 64, 100, 101, 102, 103, 1 << 32, 1<<32 + 5, lastSlot - 4, lastSlot - 3, lastSlot - 1, lastSlot}
}

// notRight: states that aren't right, each by a small change of this one, which has a validator at least.
func notRight(t *testing.T, x api.State) map[string]api.State {
	t.Helper()
	changes := map[string]func(y *api.State){
		"a balance more":             func(y *api.State) { y.Balances = append(slices.Clone(y.Balances), 1) },
		"a flag less":                func(y *api.State) { y.Previous = y.Previous[1:] },
		"no flags":                   func(y *api.State) { y.Current = nil },
		"a score less":               func(y *api.State) { y.Scores = y.Scores[1:] },
		"validators alone":           func(y *api.State) { y.Balances, y.Previous, y.Current, y.Scores = nil, nil, nil, nil },
		"a validator less":           func(y *api.State) { y.Validators = y.Validators[1:] },
		"nine votes":                 func(y *api.State) { y.Votes = eth1sOf(0, 9) },
		"too long a history":         func(y *api.State) { y.History = make([]api.Root, 1025) },
		"too late a slot":            func(y *api.State) { y.Slot = 1 << 40 },
		"the greatest slot":          func(y *api.State) { y.Slot = top },
		"a header of later":          func(y *api.State) { y.Header.Slot = y.Slot + 1 },
		"too many deposits":          func(y *api.State) { y.Deposits = 1 << 40 },
		"a checkpoint of later":      func(y *api.State) { y.OldJust.Epoch = y.Slot/4 + 1 },
		"justified later":            func(y *api.State) { y.Just.Epoch = y.Slot/4 + 1 },
		"final later":                func(y *api.State) { y.Final.Epoch = top },
		"a crooked balance":          func(y *api.State) { y.Validators = withFirst(y, func(v *api.Validator) { v.Effective-- }) },
		"too great a balance":        func(y *api.State) { y.Validators = withFirst(y, func(v *api.Validator) { v.Effective = 33 * gwei }) },
		"too late an activation":     func(y *api.State) { y.Validators = withFirst(y, func(v *api.Validator) { v.Activation = 1 << 41 }) },
		"too late an exit":           func(y *api.State) { y.Validators = withFirst(y, func(v *api.Validator) { v.Exit = top - 1 }) },
		"too great a score":          func(y *api.State) { y.Scores = slices.Repeat([]uint64{1<<40 + 1}, len(y.Scores)) },
		"too much together":          func(y *api.State) { y.Balances = slices.Repeat([]uint64{1<<57 + 1}, len(y.Balances)) },
		"balances that wrap":         func(y *api.State) { y.Balances = slices.Repeat([]uint64{1 << 63}, len(y.Balances)) },
		"slashings above all":        func(y *api.State) { y.Slashings[7] = 1<<57 + 1 },
		"slashings that wrap":        func(y *api.State) { y.Slashings[0], y.Slashings[7] = 1<<63, 1<<63 },
		"too many validators":        tooMany,
		"nobody, but one balance":    func(y *api.State) { *y = withValidators(y.Slot); y.Balances = []uint64{1} },
		"a late slot and no actives": func(y *api.State) { *y = withValidators(1 << 40) },
	}
	all := map[string]api.State{}
	for what, change := range changes {
		y := x
		change(&y)
		if state.Right(y) {
			t.Fatalf("the test's own state is right: %s", what)
		}
		all[what] = y
	}
	return all
}

func withFirst(y *api.State, change func(v *api.Validator)) []api.Validator {
	all := slices.Clone(y.Validators)
	change(&all[0])
	return all
}

func tooMany(y *api.State) {
	n := 1<<16 + 1
	y.Validators = slices.Repeat(y.Validators[:1], n)
	y.Balances, y.Previous, y.Current, y.Scores = make([]uint64, n), make([]uint8, n), make([]uint8, n), make([]uint64, n)
}

// The chapter's examples.

func TestExamples(t *testing.T) {
	x := withValidators(103, members(16, full)...)
	b := blockFor(x)
	wantHeader(t, "a block of this slot", x, b)
	b.Slot = 104
	wantNoHeader(t, "a block of another slot", x, b, api.BadSlot)
	x.Votes = nil
	v, old := eth1Of(7), x.Eth1
	for i, want := range []api.Eth1{old, old, old, old, v} {
		x = wantVote(t, fmt.Sprint("the same one; of them there are ", i), x, v, want)
	}
}

// P17.1

func TestHeaderOfSlotsAndNumbers(t *testing.T) {
	for _, n := range []int{1, 2, 3, 5, 16, 40, 300} {
		for _, slot := range someSlots() {
			x := withValidators(slot, members(n, uint64(17+slot%16))...)
			wantHeader(t, fmt.Sprintf("slot %d, %d validators", slot, n), x, blockFor(x))
		}
	}
}

func TestHeaderOfAFullRegistry(t *testing.T) {
	x := withValidators(103, members(1<<16, full)...)
	b := blockFor(x)
	wantHeader(t, "all validators that there may be", x, b)
	b.Proposer++
	wantNoHeader(t, "all validators that there may be, another proposer", x, b, api.BadProposer)
}

// fault is what may be wrong with a state, or with a block for it.
type fault struct {
	want    api.Errno
	ofState func(x *api.State)
	ofBlock func(b *api.Block)
}

// faults in the order of the promise. Each of them applies whatever the others are: a block that is of another slot is of the one ahead, so that it isn't above the header's either, where that is of the state's.
func faults() []fault {
	return []fault{
		{want: api.ErrArg, ofState: func(x *api.State) { x.Balances = append(x.Balances, 1) }},
		{want: api.BadSlot, ofBlock: func(b *api.Block) { b.Slot-- }},
		{want: api.BadHead, ofState: func(x *api.State) { x.Header.Slot = x.Slot }},
		{want: api.ErrNone, ofState: func(x *api.State) {
			for i := range x.Validators {
				x.Validators[i].Exit = x.Slot / 4
			}
		}},
		{want: api.BadProposer, ofBlock: func(b *api.Block) { b.Proposer ^= 1 }},
		{want: api.BadParent, ofBlock: func(b *api.Block) { b.Parent[31] ^= 1 }},
		{want: api.ErrLong, ofBlock: func(b *api.Block) { b.Body = bodyWith(howMany{exits: 3}) }},
		{want: api.BadSlashed, ofState: func(x *api.State) {
			for i := range x.Validators {
				x.Validators[i].Slashed = true
			}
		}},
	}
}

// TestHeaderRefusals: each by itself, two at once, and all others that there are together: the first one is answered.
func TestHeaderRefusals(t *testing.T) {
	all := faults()
	for which := range 1 << len(all) {
		x := withValidators(103, members(16, full)...)
		x.Header.Slot = 90
		want, what := api.OK, "wrong:"
		for i, f := range all {
			if which>>i&1 == 1 && f.ofState != nil {
				f.ofState(&x)
			}
		}
		b := blockFor(x)
		for i, f := range all {
			if which>>i&1 == 0 {
				continue
			}
			if f.ofBlock != nil {
				f.ofBlock(&b)
			}
			if what += fmt.Sprint(" ", f.want); want == api.OK {
				want = f.want
			}
		}
		if want == api.OK {
			wantHeader(t, "nothing wrong", x, b)
		} else {
			wantNoHeader(t, what, x, b, want)
		}
	}
}

// TestHeaderSlots around the state's and the last block's.
func TestHeaderSlots(t *testing.T) {
	for _, slot := range []uint64{0, 1, 2, 3, 4, 5, 100, 103, 104, 1 << 32, lastSlot - 1, lastSlot} {
		for back := range min(slot, 6) + 1 {
			x := withValidators(slot, members(16, full)...)
			x.Header.Slot = slot - back
			b := blockFor(x)
			what := fmt.Sprintf("slot %d, the last block's %d", slot, x.Header.Slot)
			if back == 0 {
				wantNoHeader(t, what, x, b, api.BadHead)
			} else {
				wantHeader(t, what, x, b)
			}
			for _, other := range []uint64{0, x.Header.Slot - 1, x.Header.Slot, x.Header.Slot + 1, slot - 1, slot + 1, slot + 4, slot ^ 1<<32, slot + 1<<32, slot + 1<<63, top} {
				if b.Slot = other; other != slot {
					wantNoHeader(t, fmt.Sprint(what, ", the block's ", other), x, b, api.BadSlot)
				}
			}
		}
	}
}

// TestHeaderOfSlotZero: a last block of slot 0 is always there.
func TestHeaderOfSlotZero(t *testing.T) {
	x := withValidators(0, members(16, full)...)
	wantNoHeader(t, "slot 0", x, blockFor(x), api.BadHead)
	wantNoHeader(t, "the zero state", api.State{}, api.Block{}, api.BadHead)
	wantNoHeader(t, "the zero state, slot 1", api.State{}, api.Block{Slot: 1}, api.BadSlot)
	wantNoHeader(t, "a state without validators", api.State{Slot: 1}, api.Block{Slot: 1, Parent: plainHeaderRoot(api.Header{})}, api.ErrNone)
}

// TestHeaderTwice: the block that was just taken is no more above the last one.
func TestHeaderTwice(t *testing.T) {
	x := withValidators(103, members(16, full)...)
	b := blockFor(x)
	y, err := head.Header(x, b)
	if err != api.OK {
		t.Fatalf("error %d", err)
	}
	wantNoHeader(t, "the same block again", y, b, api.BadHead)
	y.Slot = 104
	wantNoHeader(t, "the same block again, a slot later", y, b, api.BadSlot)
	wantHeader(t, "the next block", y, blockFor(y))
	c := blockFor(y)
	y.Header.State = rootOf("state", 9) // as it is filled in later
	wantNoHeader(t, "a parent without the state's root", y, c, api.BadParent)
	wantHeader(t, "a parent with the state's root", y, blockFor(y))
}

func TestHeaderProposer(t *testing.T) {
	for _, n := range []int{1, 2, 5, 16} {
		for slot := uint64(100); slot < 112; slot++ {
			x := withValidators(slot, members(n, full)...)
			b := blockFor(x)
			right := b.Proposer
			others := []uint64{uint64(n), uint64(n) + 1, right + 1<<16, right + 1<<32, right + 1<<63, top, top - right}
			for i := range uint64(n) {
				others = append(others, i)
			}
			for _, other := range others {
				if b.Proposer = other; other == right {
					wantHeader(t, fmt.Sprintf("slot %d, proposer %d", slot, other), x, b)
				} else {
					wantNoHeader(t, fmt.Sprintf("slot %d, proposer %d, not %d", slot, other, right), x, b, api.BadProposer)
				}
			}
		}
	}
}

// TestHeaderWithoutActives: nobody is there, or nobody now; nobody who is poor has luck enough.
func TestHeaderWithoutActives(t *testing.T) {
	nobody := [][]api.Validator{nil, {member(full, 26, far)}, {member(full, 0, 25)}, {member(full, far, far), member(full, 0, 1)}}
	for i, validators := range nobody {
		x := withValidators(103, validators...)
		mustRight(t, x)
		wantNoHeader(t, fmt.Sprint("no actives ", i), x, blockFor(x), api.ErrNone)
		b := blockFor(x)
		b.Proposer, b.Parent = 7, api.Root{}
		wantNoHeader(t, fmt.Sprint("no actives, and nothing right behind it ", i), x, b, api.ErrNone)
	}
	now := withValidators(103, member(full, 26, far), member(full, 25, 26), member(full, 0, 25))
	wantHeader(t, "one is active now", now, blockFor(now))
	seen := [2]int{}
	for slot := uint64(100); slot < 160; slot++ {
		x := withValidators(slot, members(3, 0)...)
		if _, ok := plainProposer(x); ok {
			seen[1]++
			wantHeader(t, fmt.Sprint("a poor one with luck, slot ", slot), x, blockFor(x))
		} else {
			seen[0]++
			wantNoHeader(t, fmt.Sprint("poor ones, slot ", slot), x, blockFor(x), api.ErrNone)
		}
	}
	if seen[0] == 0 || seen[1] == 0 {
		t.Errorf("poor ones without and with luck: %d", seen)
	}
}

// TestHeaderParent: the root of just the header that the state has.
func TestHeaderParent(t *testing.T) {
	x := withValidators(103, members(16, full)...)
	h := x.Header
	parents := map[string]api.Root{
		"zeros": {}, "the parent's parent": h.Parent, "the header's state": h.State, "the header's body": h.Body,
		"a block's root": x.BlockRoots[102%8], "the genesis root": x.GenesisRoot,
	}
	others := map[string]api.Header{"the zero header": {}, "slot": h, "proposer": h, "parent": h, "state": h, "no state": h, "body": h, "parts changed about": {Slot: h.Proposer, Proposer: h.Slot, Parent: h.Parent, State: h.State, Body: h.Body}}
	for what, other := range others {
		switch what {
		case "slot":
			other.Slot--
		case "proposer":
			other.Proposer++
		case "parent":
			other.Parent[0] ^= 1
		case "state":
			other.State[15] ^= 16
		case "no state":
			other.State = api.Root{}
		case "body":
			other.Body[31] ^= 128
		}
		parents[what] = plainHeaderRoot(other)
	}
	for what, parent := range parents {
		b := blockFor(x)
		b.Parent = parent
		wantNoHeader(t, what, x, b, api.BadParent)
	}
	for at := range 32 {
		b := blockFor(x)
		b.Parent[at] ^= 1 << (at % 8)
		wantNoHeader(t, fmt.Sprint("a parent of which one bit differs, at ", at), x, b, api.BadParent)
	}
	for _, own := range []api.Root{{}, rootOf("own", 1), {31: 1}} {
		x.Header.State = own
		wantHeader(t, fmt.Sprintf("a header with the state %x", own), x, blockFor(x))
	}
	x.Header = api.Header{}
	wantHeader(t, "the zero header", x, blockFor(x))
}

// TestHeaderAnswersNoState: whatever a block says of the state, the header has zeros.
func TestHeaderAnswersNoState(t *testing.T) {
	x := withValidators(103, members(16, full)...)
	b := blockFor(x)
	for _, told := range []api.Root{{}, rootOf("told", 0), x.Header.State, {31: 255}} {
		b.State = told
		wantHeader(t, fmt.Sprintf("a block with the state %x", told), x, b)
	}
}

// TestHeaderBodies: the body's root is told, whatever changes in it.
func TestHeaderBodies(t *testing.T) {
	x := withValidators(103, members(16, full)...)
	b := blockFor(x)
	seen := map[api.Root]string{}
	most := bodyWith(asManyAsMayBe())
	for what, body := range map[string]api.Body{
		"nothing": {}, "no operations": bodyWith(howMany{}), "all that may be": most,
		"randao": with(most, func(y *api.Body) { y.Randao[95]++ }), "vote": with(most, func(y *api.Body) { y.Eth1.Count++ }), "graffiti": with(most, func(y *api.Body) { y.Graffiti[0]++ }),
		"a slashing": bodyWith(howMany{proposers: 1}), "two": bodyWith(howMany{proposers: 2}), "an attester's": bodyWith(howMany{attesters: 1}),
		"four attestations": bodyWith(howMany{attests: 4}), "a deposit": bodyWith(howMany{deposits: 1}), "exits": bodyWith(howMany{exits: 2}),
		"sync bits": with(most, func(y *api.Body) { y.Sync.Bits[7] = true }), "sync signature": with(most, func(y *api.Body) { y.Sync.Sig[0]++ }),
		"many bits":      with(most, func(y *api.Body) { y.Attests[3] = attestOf(3, 64) }),
		"many of one":    with(most, func(y *api.Body) { y.AttesterSlashings[0].One = indexedOf(0, 64) }),
		"many of two":    with(most, func(y *api.Body) { y.AttesterSlashings[0].Two = indexedOf(0, 64) }),
		"the last proof": with(most, func(y *api.Body) { y.Deposits[1].Proof[6][31]++ }),
	} {
		b.Body = body
		wantHeader(t, what, x, b)
		y, _ := head.Header(x, b)
		if other, ok := seen[y.Header.Body]; ok {
			t.Errorf("the bodies %s and %s have one root", what, other)
		}
		seen[y.Header.Body] = what
	}
}

// with a change in what it is made of anew.
func with(b api.Body, change func(y *api.Body)) api.Body {
	b.Attests, b.AttesterSlashings, b.Deposits = slices.Clone(b.Attests), slices.Clone(b.AttesterSlashings), slices.Clone(b.Deposits)
	change(&b)
	return b
}

func TestHeaderLongLists(t *testing.T) {
	x := withValidators(103, members(16, full)...)
	slashed := withValidators(103, members(16, full)...)
	for i := range slashed.Validators {
		slashed.Validators[i].Slashed = true
	}
	most := bodyWith(asManyAsMayBe())
	for what, body := range map[string]api.Body{
		"proposer slashings": bodyWith(howMany{proposers: 3}), "attester slashings": bodyWith(howMany{attesters: 2}), "attestations": bodyWith(howMany{attests: 5}),
		"deposits": bodyWith(howMany{deposits: 3}), "exits": bodyWith(howMany{exits: 3}), "all": bodyWith(howMany{3, 2, 5, 3, 3}), "many exits": bodyWith(howMany{2, 1, 4, 2, 1000}),
		"bits":          with(most, func(y *api.Body) { y.Attests[0] = attestOf(0, 65) }),
		"the last bits": with(most, func(y *api.Body) { y.Attests[3] = attestOf(0, 65) }),
		"who of one":    with(most, func(y *api.Body) { y.AttesterSlashings[0].One = indexedOf(0, 65) }),
		"who of two":    with(most, func(y *api.Body) { y.AttesterSlashings[0].Two = indexedOf(0, 65) }),
	} {
		b := blockFor(x)
		b.Body = body
		wantNoHeader(t, what, x, b, api.ErrLong)
		wantNoHeader(t, what+", and slashed", slashed, b, api.ErrLong)
		b.Parent[0]++
		wantNoHeader(t, what+", and another parent", x, b, api.BadParent)
	}
}

// TestHeaderSlashed: the proposer, not another one.
func TestHeaderSlashed(t *testing.T) {
	for slot := uint64(100); slot < 108; slot++ {
		x := withValidators(slot, members(16, full)...)
		b := blockFor(x)
		for i := range x.Validators {
			x.Validators[i].Slashed = true
			what := fmt.Sprintf("slot %d, %d is slashed, %d proposes", slot, i, b.Proposer)
			if uint64(i) == b.Proposer {
				wantNoHeader(t, what, x, b, api.BadSlashed)
			} else {
				wantHeader(t, what, x, b)
			}
			x.Validators[i].Slashed = false
		}
	}
}

func TestHeaderOfStatesThatArentRight(t *testing.T) {
	for what, x := range notRight(t, withValidators(103, members(16, full)...)) {
		for _, b := range []api.Block{blockFor(withValidators(103, members(16, full)...)), {Slot: x.Slot, Parent: plainHeaderRoot(x.Header)}, {Slot: x.Slot + 1}, {Body: bodyWith(howMany{exits: 3})}} {
			wantNoHeader(t, what, x, b, api.ErrArg)
		}
	}
}

// P17.2

func TestRandaoOfSlotsAndNumbers(t *testing.T) {
	for _, n := range []int{1, 2, 3, 16, 40, 300} {
		for i, slot := range append(someSlots(), 0) {
			x := withValidators(slot, members(n, uint64(17+slot%16))...)
			wantRandao(t, fmt.Sprintf("slot %d, %d validators", slot, n), x, sigOf(i), nil)
		}
	}
}

// TestRandaoPlaces: those of the first and of the last mix, and those that come again.
func TestRandaoPlaces(t *testing.T) {
	for epoch, place := range map[uint64]int{0: 0, 1: 1, 6: 6, 7: 7, 8: 0, 9: 1, 15: 7, 16: 0, 17: 1, 25: 1, 1 << 30: 0, 1<<30 + 7: 7, 1<<38 - 8: 0, 1<<38 - 2: 6, 1<<38 - 1: 7} {
		for k := range uint64(4) {
			x := withValidators(4*epoch+k, members(16, full)...)
			wantRandao(t, fmt.Sprint("slot ", x.Slot), x, sigOf(3), nil)
			y, _, err := head.Randao(x, sigOf(3), nil)
			for i := range x.Mixes {
				if changed := y.Mixes[i] != x.Mixes[i]; changed != (i == place) || err != api.OK {
					t.Errorf("slot %d: the mix %d changed %v; error %d", x.Slot, i, changed, err)
				}
			}
		}
	}
}

// TestRandaoTwice: what is mixed in again goes out; others stay in, in whichever order they came.
func TestRandaoTwice(t *testing.T) {
	x := withValidators(103, members(16, full)...)
	y := x
	for _, v := range []int{1, 2, 1, 3} {
		wantRandao(t, fmt.Sprint("reveal ", v), y, sigOf(v), nil)
		y, _, _ = head.Randao(y, sigOf(v), nil)
	}
	want := x
	want.Mixes[1] = plainXor(plainXor(x.Mixes[1], sigOf(3)), sigOf(2))
	if !sameState(t, y, want) {
		t.Errorf("the mixes behind four reveals: %x; want %x", y.Mixes, want.Mixes)
	}
}

// TestRandaoMixes of zeros and of ones.
func TestRandaoMixes(t *testing.T) {
	for _, v := range []byte{0, 1, 0x55, 0x80, 0xff} {
		x := withValidators(103, members(16, full)...)
		for i := range x.Mixes[1] {
			x.Mixes[1][i] = v
		}
		wantRandao(t, fmt.Sprint("a mix of bytes ", v), x, sigOf(4), nil)
		wantRandao(t, fmt.Sprint("a mix of bytes ", v, ", a zero reveal"), x, api.Sig{}, nil)
	}
}

// TestRandaoReveals that differ in one byte: another question, another mix, and what is bad of one isn't of the other.
func TestRandaoReveals(t *testing.T) {
	x := withValidators(103, members(16, full)...)
	reveal := sigOf(9)
	first, asked, err := head.Randao(x, reveal, nil)
	if err != api.OK {
		t.Fatalf("error %d", err)
	}
	mixes := map[api.Root]int{first.Mixes[1]: -1}
	for at := range reveal {
		other := reveal
		other[at] ^= 1 << (at % 8)
		wantRandao(t, fmt.Sprint("a byte changed, at ", at), x, other, asked)
		y, others, _ := head.Randao(x, other, asked)
		if before, ok := mixes[y.Mixes[1]]; ok {
			t.Errorf("reveals changed at %d and at %d make one mix", at, before)
		}
		mixes[y.Mixes[1]] = at
		wantNoRandao(t, fmt.Sprint("bad with a byte changed, at ", at), x, other, others, api.BadSig, others...)
	}
}

// TestRandaoBad: the question, alone and among others, at each place.
func TestRandaoBad(t *testing.T) {
	x := withValidators(103, members(16, full)...)
	q := plainReveal(x, sigOf(1))
	for n := range 10 {
		for at := range n + 1 {
			bad := slices.Insert(rootsOf("question", n), at, q)
			wantNoRandao(t, fmt.Sprintf("bad at %d, %d others", at, n), x, sigOf(1), bad, api.BadSig, q)
		}
		wantRandao(t, fmt.Sprint("others alone: ", n), x, sigOf(1), rootsOf("question", n))
	}
	wantNoRandao(t, "bad twice", x, sigOf(1), []api.Root{q, q}, api.BadSig, q)
	for at := range 32 {
		near := q
		near[at] ^= 128
		wantRandao(t, fmt.Sprint("nearly bad, at ", at), x, sigOf(1), []api.Root{near})
	}
	wantRandao(t, "an empty list", x, sigOf(1), []api.Root{})
	wantRandao(t, "zeros are bad", x, sigOf(1), []api.Root{{}})
	great := rootsOf("question", 5000)
	wantRandao(t, "many bad ones", x, sigOf(1), great)
	wantNoRandao(t, "many bad ones and this", x, sigOf(1), append(great, q), api.BadSig, q)
}

// TestRandaoNotAsked: questions that are bad, but are others.
func TestRandaoNotAsked(t *testing.T) {
	for _, slot := range []uint64{39, 40, 103} {
		x := withValidators(slot, members(16, full)...)
		who, _ := plainProposer(x)
		epoch, reveal, key := slot/4, sigOf(1), x.Validators[who].Key
		object, domain := numberChunk(epoch), plainDomain(x, 2, epoch)
		var bad []api.Root
		for i, v := range x.Validators {
			if uint64(i) != who {
				bad = append(bad, plainQuestion(v.Key, object, domain, reveal))
			}
		}
		for _, kind := range []byte{0, 1, 3, 4, 7} {
			bad = append(bad, plainQuestion(key, object, plainDomain(x, kind, epoch), reveal))
		}
		for _, other := range []uint64{epoch - 1, epoch + 1, slot, epoch + 1<<32, 0, top} {
			bad = append(bad, plainQuestion(key, numberChunk(other), domain, reveal))
		}
		old, now := x, x
		old.Fork.Epoch, now.Fork.Epoch = epoch+1, epoch
		if slot < 40 {
			old = now
		}
		bad = append(bad,
			plainQuestion(key, object, plainDomain(old, 2, epoch), reveal), // of the other version
			plainQuestion(key, domain, object, reveal), plainQuestion(key, object, domain, sigOf(2)), plainQuestion(key, object, domain, api.Sig{}),
			object, domain, plainTwo(object, domain))
		wantRandao(t, fmt.Sprint("questions that aren't asked, slot ", slot), x, reveal, bad)
		q := plainReveal(x, reveal)
		wantNoRandao(t, fmt.Sprint("the right one behind them, slot ", slot), x, reveal, append(bad, q), api.BadSig, q)
	}
}

// TestRandaoAtTheFork: the version is that of the state's epoch.
func TestRandaoAtTheFork(t *testing.T) {
	x := withValidators(103, members(16, full)...)
	seen := map[api.Root][]uint64{}
	for _, fork := range []uint64{0, 1, 24, 25, 26, 27, 1 << 40, top} {
		x.Fork.Epoch = fork
		wantRandao(t, fmt.Sprint("a fork of epoch ", fork), x, sigOf(1), nil)
		q := plainReveal(x, sigOf(1))
		seen[q] = append(seen[q], fork)
	}
	if len(seen) != 2 {
		t.Errorf("epochs of the fork by their questions: %v; want two of these", seen)
	}
}

// TestRandaoOfTheKey, the genesis root and the versions: each of them counts.
func TestRandaoOfTheKey(t *testing.T) {
	for at := range 48 {
		x := withValidators(103, members(16, full)...)
		who, _ := plainProposer(x)
		x.Validators[who].Key[at] ^= 4
		x.GenesisRoot[at%32] ^= 8
		x.Fork.Current[at%4] ^= 16
		wantRandao(t, fmt.Sprint("changed at ", at), x, sigOf(1), []api.Root{plainReveal(withValidators(103, members(16, full)...), sigOf(1))})
	}
}

// TestRandaoOfTheSlashed: it isn't asked for here.
func TestRandaoOfTheSlashed(t *testing.T) {
	x := withValidators(103, members(16, full)...)
	for i := range x.Validators {
		x.Validators[i].Slashed = true
	}
	x.Header.Slot = 103 // nor is the header
	wantRandao(t, "all are slashed", x, sigOf(1), nil)
}

func TestRandaoWithoutActives(t *testing.T) {
	for i, validators := range [][]api.Validator{nil, {member(full, 26, far)}, {member(full, 0, 25)}, {member(full, far, far), member(full, 0, 1)}} {
		x := withValidators(103, validators...)
		mustRight(t, x)
		for _, bad := range [][]api.Root{nil, rootsOf("question", 3)} {
			wantNoRandao(t, fmt.Sprint("no actives ", i), x, sigOf(1), bad, api.ErrNone)
		}
	}
	wantNoRandao(t, "the zero state", api.State{}, api.Sig{}, nil, api.ErrNone)
	for slot := uint64(100); slot < 140; slot++ {
		x := withValidators(slot, members(3, 0)...)
		if _, ok := plainProposer(x); ok {
			wantRandao(t, fmt.Sprint("a poor one with luck, slot ", slot), x, sigOf(1), nil)
		} else {
			wantNoRandao(t, fmt.Sprint("poor ones, slot ", slot), x, sigOf(1), nil, api.ErrNone)
		}
	}
}

func TestRandaoOfStatesThatArentRight(t *testing.T) {
	right := withValidators(103, members(16, full)...)
	for what, x := range notRight(t, right) {
		for _, bad := range [][]api.Root{nil, {plainReveal(right, sigOf(1))}} {
			wantNoRandao(t, what, x, sigOf(1), bad, api.ErrArg)
		}
	}
}

// P17.3

// TestVoteOfEachNumber: so many are v already, so many are another's.
func TestVoteOfEachNumber(t *testing.T) {
	v, old := eth1Of(7), eth1Of(100)
	for mine := range 9 {
		for others := range 9 - mine {
			x := withValidators(103, members(3, full)...)
			x.Votes = append(slices.Repeat([]api.Eth1{v}, mine), eth1sOf(10, others)...)
			what := fmt.Sprintf("%d the same, %d others", mine, others)
			switch {
			case mine+others == 8:
				mustRight(t, x)
				wantNoVote(t, what, x, v, api.ErrLong)
			case mine >= 4:
				wantVote(t, what, x, v, v)
			default:
				wantVote(t, what, x, v, old)
			}
			slices.Reverse(x.Votes)
			if mine+others < 8 {
				want := old
				if mine >= 4 {
					want = v
				}
				wantVote(t, what+", the others first", x, v, want)
			}
		}
	}
}

// TestVoteAmongOthers: whichever places the votes have that are v.
func TestVoteAmongOthers(t *testing.T) {
	v, old := eth1Of(7), eth1Of(100)
	for n := range 8 {
		for which := range 1 << n {
			x := withValidators(103, members(1, full)...)
			x.Votes = eth1sOf(10, n)
			same := 1
			for i := range n {
				if which>>i&1 == 1 {
					x.Votes[i] = v
					same++
				}
			}
			want := old
			if same >= 5 {
				want = v
			}
			wantVote(t, fmt.Sprintf("of %d votes those of %b", n, which), x, v, want)
		}
	}
}

// TestVoteOfOneField: votes that differ from v in one field alone are others.
func TestVoteOfOneField(t *testing.T) {
	v, old := eth1Of(7), eth1Of(100)
	near := []api.Eth1{}
	for at := range 32 {
		one, two := v, v
		one.Deposits[at] ^= 1 << (at % 8)
		two.Block[at] ^= 1 << (at % 8)
		near = append(near, one, two)
	}
	for bit := range 64 {
		other := v
		other.Count ^= 1 << bit
		near = append(near, other)
	}
	near = append(near, api.Eth1{Deposits: v.Block, Count: v.Count, Block: v.Deposits}, api.Eth1{})
	for i, other := range near {
		x := withValidators(103, members(1, full)...)
		x.Votes = slices.Repeat([]api.Eth1{v}, 7)
		wantVote(t, fmt.Sprint("seven others, but nearly the same ", i), x, other, old)
		x.Votes = append(slices.Repeat([]api.Eth1{v}, 3), other, other)
		wantVote(t, fmt.Sprint("three the same, two nearly ", i), x, v, old)
		x.Votes = append(slices.Repeat([]api.Eth1{v}, 4), other, other)
		wantVote(t, fmt.Sprint("four the same, two nearly ", i), x, v, v)
	}
}

// TestVoteOfAnother: those who have most already aren't asked again, and Eth1 isn't a vote.
func TestVoteOfAnother(t *testing.T) {
	v, other := eth1Of(7), eth1Of(8)
	x := withValidators(103, members(1, full)...)
	x.Votes = slices.Repeat([]api.Eth1{v}, 6)
	wantVote(t, "six for another", x, other, x.Eth1)
	x.Eth1 = v
	wantVote(t, "six for another, who it is already", x, other, v)
	wantVote(t, "six for the same, who it is already", x, v, v)
	x.Eth1 = other
	wantVote(t, "six for it, while it is another", x, v, v)
	x.Votes = slices.Repeat([]api.Eth1{v}, 3)
	wantVote(t, "it is so already, but not by votes", x, other, other)
	x.Eth1 = eth1Of(9)
	wantVote(t, "three and three", with3(x, other), v, x.Eth1)
}

func with3(x api.State, v api.Eth1) api.State {
	x.Votes = append(slices.Clone(x.Votes), v, v, v)
	return x
}

// TestVoteOfZeros: the zero vote is one as any other.
func TestVoteOfZeros(t *testing.T) {
	x := withValidators(103, members(1, full)...)
	for n := range 9 {
		x.Votes = make([]api.Eth1, n)
		switch {
		case n == 8:
			wantNoVote(t, "eight zeros", x, api.Eth1{}, api.ErrLong)
		case n >= 4:
			wantVote(t, fmt.Sprint("zeros: ", n), x, api.Eth1{}, api.Eth1{})
		default:
			wantVote(t, fmt.Sprint("zeros: ", n), x, api.Eth1{}, eth1Of(100))
		}
	}
	wantVote(t, "the zero state", api.State{}, api.Eth1{}, api.Eth1{})
	wantVote(t, "the zero state, a vote", api.State{}, eth1Of(1), api.Eth1{})
}

// TestVoteOneAfterTheOther: eight by two, and no ninth.
func TestVoteOneAfterTheOther(t *testing.T) {
	a, b, old := eth1Of(1), eth1Of(2), eth1Of(100)
	x := withValidators(103, members(16, full)...)
	x.Votes = nil
	for i, step := range []struct{ v, want api.Eth1 }{{a, old}, {b, old}, {a, old}, {a, old}, {b, old}, {a, old}, {a, a}, {b, a}} {
		x = wantVote(t, fmt.Sprint("step ", i), x, step.v, step.want)
	}
	for _, v := range []api.Eth1{a, b, old, {}} {
		wantNoVote(t, "the ninth", x, v, api.ErrLong)
	}
	x.Votes = nil
	for i := range 8 {
		want := a
		if i >= 4 {
			want = b
		}
		x = wantVote(t, fmt.Sprint("anew, step ", i), x, b, want)
	}
}

// TestVoteAtEachSlot: neither slots nor actives matter.
func TestVoteAtEachSlot(t *testing.T) {
	for _, slot := range append(someSlots(), 0) {
		x := withValidators(slot)
		x.Votes = slices.Repeat([]api.Eth1{eth1Of(1)}, 4)
		wantVote(t, fmt.Sprint("slot ", slot), x, eth1Of(1), eth1Of(1))
	}
}

func TestVoteOfStatesThatArentRight(t *testing.T) {
	x := withValidators(103, members(16, full)...)
	x.Votes = eth1sOf(0, 8)
	for what, y := range notRight(t, x) {
		wantNoVote(t, what, y, eth1Of(1), api.ErrArg)
		y.Votes = y.Votes[:min(4, len(y.Votes))]
		if what != "nine votes" {
			wantNoVote(t, what+", few votes", y, eth1Of(1), api.ErrArg)
		}
	}
}

// What is handed in stays, and what is answered is new memory.

// answers of one round of all calls: each with a state, and the questions of one.
type answers struct {
	Header, Randao, Vote api.State
	Asked                []api.Root
	Errors               [3]api.Errno
}

func askAll(x api.State, b api.Block, reveal api.Sig, bad []api.Root, v api.Eth1) answers {
	var a answers
	a.Header, a.Errors[0] = head.Header(x, b)
	a.Randao, a.Asked, a.Errors[1] = head.Randao(x, reveal, bad)
	a.Vote, a.Errors[2] = head.Vote(x, v)
	return a
}

// text of the answers without the room behind their lists' ends.
func (a answers) text() string { return fmt.Sprint(a) }

// rounds: states and blocks of all kinds, taken and refused.
func rounds(t *testing.T) map[string]api.State {
	t.Helper()
	all := map[string]api.State{"nobody": withValidators(103), "one": withValidators(103, members(1, full)...), "many": withValidators(103, members(40, full)...)}
	for n := range 9 {
		x := withValidators(103, members(5, full)...)
		x.Votes = eth1sOf(7, n)
		all[fmt.Sprint("votes: ", n)] = x
	}
	for _, f := range faults() {
		if f.ofState != nil {
			x := withValidators(103, members(5, full)...)
			f.ofState(&x)
			all[fmt.Sprint("error ", f.want)] = x
		}
	}
	return all
}

func TestWhatIsHandedInStays(t *testing.T) {
	for what, x := range rounds(t) {
		for _, n := range []howMany{{}, {1, 1, 2, 1, 1}, asManyAsMayBe(), {3, 2, 5, 3, 3}} {
			b := blockFor(x)
			b.Body = bodyWith(n)
			bad := append(make([]api.Root, 0, 9), rootsOf("question", 3)...)
			state, block, list := whole(&x), whole(&b), whole(&bad)
			one := askAll(x, b, sigOf(1), bad, eth1Of(7))
			two := askAll(x, b, sigOf(1), bad, eth1Of(7))
			if whole(&x) != state {
				t.Errorf("%s: the state was changed, or its room", what)
			}
			if whole(&b) != block {
				t.Errorf("%s: the block was changed, or its room", what)
			}
			if whole(&bad) != list {
				t.Errorf("%s: the bad ones were changed, or their room", what)
			}
			if one.text() != two.text() {
				t.Errorf("%s: asked again, other answers", what)
			}
			if q := one.Asked; len(q) > 0 {
				bad = append(bad[:1], q[0], bad[1])
				list = whole(&bad)
				if _, _, err := head.Randao(x, sigOf(1), bad); err != api.BadSig || whole(&bad) != list || whole(&x) != state {
					t.Errorf("%s: error %d, or the bad ones were changed", what, err)
				}
			}
		}
	}
}

// TestAnswersAreNewMemory: what the caller does with an answer changes neither what was handed in nor another answer, and the other way round.
func TestAnswersAreNewMemory(t *testing.T) {
	for what, x := range rounds(t) {
		b, bad := blockFor(x), append(make([]api.Root, 0, 9), rootsOf("question", 3)...)
		ask := func() answers { return askAll(x, b, sigOf(1), bad, eth1Of(7)) }
		first, second := ask(), ask()
		state, block, list, told := whole(&x), whole(&b), whole(&bad), second.text()
		spoil(&first)
		first.Asked = append(first.Asked, api.Root{})
		if whole(&x) != state || whole(&b) != block || whole(&bad) != list {
			t.Errorf("%s: an answer shares memory with what was handed in", what)
		}
		if second.text() != told {
			t.Errorf("%s: two answers share memory", what)
		}
		if ask().text() != told {
			t.Errorf("%s: other answers, once one was changed by the caller", what)
		}
		spoil(&x)
		spoil(&b)
		spoil(&bad)
		if second.text() != told {
			t.Errorf("%s: an answer hangs on what was handed in, later on", what)
		}
	}
}

// TestListsOfOneAnswer share no memory with each other.
func TestListsOfOneAnswer(t *testing.T) {
	x := withValidators(103, members(5, full)...)
	x.Balances, x.Scores = slices.Repeat([]uint64{7}, 5), slices.Repeat([]uint64{7}, 5)
	x.Scores = x.Balances // as they may be handed in
	x.Current = x.Previous
	a := askAll(x, blockFor(x), sigOf(1), nil, eth1Of(7))
	if a.Errors != [3]api.Errno{} {
		t.Fatalf("errors %d", a.Errors)
	}
	for i, y := range []api.State{a.Header, a.Randao, a.Vote} {
		y.Balances[0], y.Previous[0] = 9, 9
		if y.Scores[0] != 7 || y.Current[0] == 9 || x.Balances[0] != 7 {
			t.Errorf("answer %d: two lists share memory", i)
		}
	}
}

// TestRoomIsNoVote: those behind the end of the votes aren't there, nor are validators.
func TestRoomIsNoVote(t *testing.T) {
	v := eth1Of(7)
	x := withValidators(103, members(16, full)...)
	x.Votes = slices.Repeat([]api.Eth1{v}, 8)[:3]
	wantVote(t, "three, and five behind the end", x, v, x.Eth1)
	for _, n := range []int{9, 1} {
		x.Validators, x.Balances, x.Previous, x.Current, x.Scores = x.Validators[:n], x.Balances[:n], x.Previous[:n], x.Current[:n], x.Scores[:n]
		wantHeader(t, fmt.Sprint(n, " of 16"), x, blockFor(x))
		wantRandao(t, fmt.Sprint(n, " of 16"), x, sigOf(1), nil)
	}
	all := rootsOf("question", 4)
	all[3] = plainReveal(x, sigOf(1))
	wantRandao(t, "bad behind the end", x, sigOf(1), all[:3])
}

// TestNothingIsKept: what its owner changes between two calls counts for the second.
func TestNothingIsKept(t *testing.T) {
	x := withValidators(103, members(16, full)...)
	b, bad := blockFor(x), []api.Root{plainReveal(x, sigOf(1))}
	wantHeader(t, "at first", x, b)
	wantNoRandao(t, "at first", x, sigOf(1), bad, api.BadSig, bad[0])
	wantVote(t, "at first", x, x.Votes[0], x.Eth1)
	bad[0] = api.Root{}
	wantRandao(t, "no more bad", x, sigOf(1), bad)
	x.Validators[b.Proposer].Slashed = true
	wantNoHeader(t, "slashed by now", x, b, api.BadSlashed)
	x.Validators[b.Proposer].Slashed = false
	b.Body.Attests[0].Bits[0] = !b.Body.Attests[0].Bits[0]
	wantHeader(t, "another bit", x, b)
	x.Votes = slices.Repeat(x.Votes[:1], 4)
	wantVote(t, "more by now", x, x.Votes[0], x.Votes[0])
	x.Validators[b.Proposer].Key = keyOf(77)
	wantRandao(t, "another key", x, sigOf(1), nil)
}

func TestByChance(t *testing.T) {
	r := rand.New(rand.NewPCG(17, 1))
	for range 300 {
		validators := members(1+r.IntN(30), 0)
		for i := range validators {
			validators[i].Effective = uint64(r.IntN(33)) * gwei
			validators[i].Slashed = r.IntN(4) == 0
			validators[i].Activation, validators[i].Exit = uint64(24+r.IntN(2)), uint64(25+r.IntN(3))
		}
		x := withValidators(96+uint64(r.IntN(12)), validators...)
		x.Votes = eth1sOf(0, r.IntN(9))
		for i := range x.Votes {
			x.Votes[i] = eth1Of(r.IntN(2))
		}
		for k := range x.Mixes {
			x.Mixes[k] = rootOf("chance", r.Int())
		}
		checkPlain(t, x, blockFor(x), sigOf(r.IntN(1000)), eth1Of(r.IntN(2)))
	}
}

// checkPlain: what the second reading tells of a block that is as it should be, a reveal and a vote.
func checkPlain(t *testing.T, x api.State, b api.Block, reveal api.Sig, v api.Eth1) {
	t.Helper()
	who, ok := plainProposer(x)
	what := fmt.Sprintf("slot %d, proposer %d", x.Slot, who)
	switch {
	case !ok:
		wantNoHeader(t, what, x, b, api.ErrNone)
		wantNoRandao(t, what, x, reveal, nil, api.ErrNone)
	case x.Validators[who].Slashed:
		wantNoHeader(t, what, x, b, api.BadSlashed)
		wantRandao(t, what, x, reveal, nil)
	default:
		wantHeader(t, what, x, b)
		wantRandao(t, what, x, reveal, nil)
	}
	if len(x.Votes) == 8 {
		wantNoVote(t, what, x, v, api.ErrLong)
		return
	}
	want, same := x.Eth1, 1
	for _, vote := range x.Votes {
		if vote == v {
			same++
		}
	}
	if same >= 5 {
		want = v
	}
	wantVote(t, what, x, v, want)
}

// Nothing is kept from call to call, and calls side by side don't meet.
func TestCallsSideBySide(t *testing.T) {
	x := withValidators(103, members(40, full)...)
	b, bad := blockFor(x), rootsOf("question", 5)
	var wait sync.WaitGroup
	for i := range 24 {
		wait.Go(func() {
			wantHeader(t, "side by side", x, b)
			wantRandao(t, "side by side", x, sigOf(i), bad)
			wantVote(t, "side by side", x, eth1Of(i), x.Eth1)
		})
	}
	wait.Wait()
}
