package head_test

import (
	"bytes"
	"crypto/sha256"
	"encoding/binary"
	"fmt"
	"math/big"
	"reflect"
	"slices"
	"testing"

	"pharos/api"
	"pharos/block"
	"pharos/head"
	"pharos/state"
)

const (
	far      = 1<<64 - 1
	top      = 1<<64 - 1
	lastSlot = 1<<40 - 1 // of a right state
	gwei     = 1000000000
	full     = 32 // Increments
)

// States and blocks by hand.

// room for so many, and some spare room, so that what writes there is seen.
func room[T any](n int) []T { return make([]T, n, n+3) }

// rootOf a number: another root for each.
func rootOf(what string, v int) api.Root { return sha256.Sum256(fmt.Append(nil, what, v)) }

// rootsOf so many numbers.
func rootsOf(what string, n int) []api.Root {
	roots := make([]api.Root, n)
	for i := range roots {
		roots[i] = rootOf(what, i)
	}
	return roots
}

// keyOf a validator: another key for each.
func keyOf(v int) api.Key {
	front, back := rootOf("key", v), rootOf("key's end", v)
	return api.Key(append(front[:], back[:16]...))
}

// sigOf a number: another signature for each.
func sigOf(v int) api.Sig {
	one, two, three := rootOf("sig", v), rootOf("sig's middle", v), rootOf("sig's end", v)
	return api.Sig(slices.Concat(one[:], two[:], three[:]))
}

// eth1Of a number: another one for each.
func eth1Of(v int) api.Eth1 {
	return api.Eth1{Deposits: rootOf("deposits", v), Count: uint64(v), Block: rootOf("eth1 block", v)}
}

// eth1sOf so many numbers, from one on, with spare room.
func eth1sOf(from, n int) []api.Eth1 {
	all := room[api.Eth1](n)
	for i := range all {
		all[i] = eth1Of(from + i)
	}
	return all
}

// member has so many Increments, and is active from an epoch on till another.
func member(increments, activation, exit uint64) api.Validator {
	return api.Validator{Effective: increments * gwei, Activation: activation, Exit: exit, Withdrawable: far}
}

// members: so many that are active always, with so many Increments each.
func members(n int, increments uint64) []api.Validator {
	return slices.Repeat([]api.Validator{member(increments, 0, far)}, n)
}

// withValidators is a state at a slot with these validators, to whom it gives keys. What stands in it is another thing in each place, and its last block is of the slot ahead of this one's, or of the same at slot 0.
func withValidators(slot uint64, validators ...api.Validator) api.State {
	n := len(validators)
	x := api.State{
		Genesis: 5, GenesisRoot: rootOf("genesis", 0), Slot: slot, Deposits: 9,
		Fork:   api.Fork{Previous: api.Version{1, 2, 3, 4}, Current: api.Version{5, 6, 7, 8}, Epoch: 10},
		Header: api.Header{Slot: max(slot, 1) - 1, Proposer: 3, Parent: rootOf("parent", 0), State: rootOf("state of the header", 0), Body: rootOf("body", 0)},
		Eth1:   eth1Of(100), Votes: eth1sOf(200, 2), History: room[api.Root](2),
		Validators: room[api.Validator](n), Balances: room[uint64](n),
		Previous: room[uint8](n), Current: room[uint8](n), Scores: room[uint64](n),
		Bits:    [4]bool{true, false, true, true},
		OldJust: api.Checkpoint{Root: rootOf("justified", 0)}, Just: api.Checkpoint{Root: rootOf("justified", 1)}, Final: api.Checkpoint{Root: rootOf("final", 0)},
	}
	copy(x.History, rootsOf("history", 2))
	copy(x.Validators, validators)
	for i := range n {
		x.Validators[i].Key = keyOf(i)
		x.Balances[i], x.Scores[i], x.Previous[i], x.Current[i] = uint64(17*gwei+i), uint64(i+4), uint8(i), uint8(i+1)
	}
	for i := range 8 {
		x.BlockRoots[i], x.StateRoots[i], x.Mixes[i] = rootOf("block", i), rootOf("state", i), rootOf("mix", i)
		x.Slashings[i] = uint64(i) * gwei
		x.Sync.Keys[i], x.NextSync.Keys[i] = keyOf(1000+i), keyOf(2000+i)
	}
	x.Sync.Sum, x.NextSync.Sum = keyOf(3000), keyOf(3001)
	return x
}

func mustRight(t *testing.T, x api.State) {
	t.Helper()
	if !state.Right(x) {
		t.Fatalf("the test's own state at slot %d with %d validators isn't right", x.Slot, len(x.Validators))
	}
}

// dataOf a number.
func dataOf(v int) api.Data {
	return api.Data{
		Slot: uint64(v), Index: uint64(v + 1), Block: rootOf("attested", v),
		Source: api.Checkpoint{Epoch: uint64(v), Root: rootOf("source", v)}, Target: api.Checkpoint{Epoch: uint64(v + 1), Root: rootOf("target", v)},
	}
}

// indexedOf a number, by so many.
func indexedOf(v, n int) api.Indexed {
	who := room[uint64](n)
	for i := range who {
		who[i] = uint64(v + i)
	}
	return api.Indexed{Who: who, Data: dataOf(v), Sig: sigOf(v)}
}

// attestOf a number, with so many bits.
func attestOf(v, n int) api.Attest {
	bits := room[bool](n)
	for i := range bits {
		bits[i] = (i+v)%3 != 0
	}
	return api.Attest{Bits: bits, Data: dataOf(v), Sig: sigOf(v)}
}

func signedHeaderOf(v int) api.SignedHeader {
	return api.SignedHeader{Header: api.Header{Slot: uint64(v), Proposer: uint64(v + 1), Parent: rootOf("a parent", v)}, Sig: sigOf(v)}
}

// howMany operations of each kind a body has.
type howMany struct{ proposers, attesters, attests, deposits, exits int }

// asManyAsMayBe of each kind.
func asManyAsMayBe() howMany { return howMany{2, 1, 4, 2, 2} }

// bodyWith so many of each kind; the lists have room behind their ends.
func bodyWith(n howMany) api.Body {
	b := api.Body{
		Randao: sigOf(50), Eth1: eth1Of(50), Graffiti: rootOf("graffiti", 0),
		ProposerSlashings: room[api.ProposerSlashing](n.proposers), AttesterSlashings: room[api.AttesterSlashing](n.attesters),
		Attests: room[api.Attest](n.attests), Deposits: room[api.Deposit](n.deposits), Exits: room[api.SignedExit](n.exits),
		Sync: api.SyncAggregate{Bits: [8]bool{1: true, 4: true}, Sig: sigOf(51)},
	}
	for i := range b.ProposerSlashings {
		b.ProposerSlashings[i] = api.ProposerSlashing{One: signedHeaderOf(i), Two: signedHeaderOf(i + 10)}
	}
	for i := range b.AttesterSlashings {
		b.AttesterSlashings[i] = api.AttesterSlashing{One: indexedOf(i, 3), Two: indexedOf(i+10, 5)}
	}
	for i := range b.Attests {
		b.Attests[i] = attestOf(i, 4+i)
	}
	for i := range b.Deposits {
		b.Deposits[i] = api.Deposit{Data: api.DepositData{Key: keyOf(500 + i), Amount: uint64(i) * gwei, Sig: sigOf(500 + i)}}
		copy(b.Deposits[i].Proof[:], rootsOf("proof", 7))
	}
	for i := range b.Exits {
		b.Exits[i] = api.SignedExit{Exit: api.Exit{Epoch: uint64(i), Validator: uint64(i + 1)}, Sig: sigOf(600 + i)}
	}
	return b
}

// blockFor a state: one that is taken, if it may have one at all, with something of each kind.
func blockFor(x api.State) api.Block {
	b := api.Block{Slot: x.Slot, Parent: plainHeaderRoot(x.Header), State: rootOf("state of the block", 0), Body: bodyWith(howMany{1, 1, 2, 1, 1})}
	b.Proposer, _ = plainProposer(x)
	return b
}

// Second readings of the chapters, in numbers that can't wrap and with the library's hash.

func number(n uint64) *big.Int { return new(big.Int).SetUint64(n) }

func plainTwo(a, b api.Root) api.Root { return sha256.Sum256(slices.Concat(a[:], b[:])) }

// chunk of at most 32 bytes.
func chunk(b []byte) api.Root {
	var c api.Root
	copy(c[:], b)
	return c
}

func numberChunk(n uint64) api.Root { return chunk(binary.LittleEndian.AppendUint64(nil, n)) }

// plainHeaderRoot: eight leaves, the last three of them zeros.
func plainHeaderRoot(h api.Header) api.Root {
	zeros := plainTwo(api.Root{}, api.Root{})
	front := plainTwo(plainTwo(numberChunk(h.Slot), numberChunk(h.Proposer)), plainTwo(h.Parent, h.State))
	return plainTwo(front, plainTwo(plainTwo(h.Body, api.Root{}), zeros))
}

func plainActives(x api.State, epoch uint64) []uint64 {
	var all []uint64
	for i, v := range x.Validators {
		if number(v.Activation).Cmp(number(epoch)) <= 0 && number(v.Exit).Cmp(number(epoch)) > 0 {
			all = append(all, uint64(i))
		}
	}
	return all
}

func plainPlace(i, n uint64, seed []byte) uint64 {
	for r := range 6 {
		front := append(slices.Clone(seed), byte(r))
		hash := sha256.Sum256(front)
		slices.Reverse(hash[:8])
		pivot := new(big.Int).SetBytes(hash[:8])
		flip := pivot.Sub(pivot, number(i)).Mod(pivot, number(n)).Uint64()
		place := max(i, flip)
		source := sha256.Sum256(binary.LittleEndian.AppendUint32(front, uint32(place/256)))
		if source[place%256/8]&(1<<(place%8)) != 0 {
			i = flip
		}
	}
	return i
}

// plainProposer, and whether there is one.
func plainProposer(x api.State) (uint64, bool) {
	epoch := x.Slot / 4
	actives := plainActives(x, epoch)
	mix := x.Mixes[(epoch+6)%8]
	epochSeed := sha256.Sum256(append(binary.LittleEndian.AppendUint64([]byte{0, 0, 0, 0}, epoch), mix[:]...))
	seed := sha256.Sum256(binary.LittleEndian.AppendUint64(epochSeed[:], x.Slot))
	if len(actives) == 0 {
		return 0, false
	}
	n := uint64(len(actives))
	for try := range uint64(256) {
		who := actives[plainPlace(try%n, n, seed[:])]
		lots := sha256.Sum256(binary.LittleEndian.AppendUint64(slices.Clone(seed[:]), try/32))
		has := new(big.Int).Mul(number(x.Validators[who].Effective), number(255))
		asked := new(big.Int).Mul(number(32*gwei), number(uint64(lots[try%32])))
		if has.Cmp(asked) >= 0 {
			return who, true
		}
	}
	return 0, false
}

// plainDomain of a kind below 256.
func plainDomain(x api.State, kind byte, epoch uint64) api.Root {
	version := x.Fork.Current
	if number(epoch).Cmp(number(x.Fork.Epoch)) < 0 {
		version = x.Fork.Previous
	}
	hash := plainTwo(chunk(version[:]), x.GenesisRoot)
	return api.Root(append([]byte{kind, 0, 0, 0}, hash[:28]...))
}

func plainQuestion(key api.Key, object, domain api.Root, sig api.Sig) api.Root {
	root := plainTwo(object, domain)
	return sha256.Sum256(slices.Concat(key[:], root[:], sig[:]))
}

// plainReveal is the question of a reveal.
func plainReveal(x api.State, reveal api.Sig) api.Root {
	who, _ := plainProposer(x)
	epoch := x.Slot / 4
	return plainQuestion(x.Validators[who].Key, numberChunk(epoch), plainDomain(x, 2, epoch), reveal)
}

// plainXor of a mix and a reveal's sum.
func plainXor(mix api.Root, reveal api.Sig) api.Root {
	sum := sha256.Sum256(reveal[:])
	both := new(big.Int).Xor(new(big.Int).SetBytes(mix[:]), new(big.Int).SetBytes(sum[:]))
	return api.Root(both.FillBytes(make([]byte, 32)))
}

// What is seen of states and blocks.

// sameState tells whether two right states are the same, nil and an empty list being so too.
func sameState(t *testing.T, a, b api.State) bool {
	t.Helper()
	one, err := state.EncState(a)
	two, err2 := state.EncState(b)
	if err != api.OK || err2 != api.OK {
		t.Fatalf("a state can't be written: errors %d, %d", err, err2)
	}
	return bytes.Equal(one, two)
}

// isZero tells whether a state is the zero one, its lists nil or empty.
func isZero(x api.State) bool {
	v := reflect.ValueOf(x)
	for i := range v.NumField() {
		f := v.Field(i)
		if f.Kind() == reflect.Slice && f.Len() > 0 || f.Kind() != reflect.Slice && !f.IsZero() {
			return false
		}
	}
	return true
}

// roomy tells a value, and of each list in it the room behind its end too.
func roomy(b []byte, v reflect.Value) []byte {
	switch v.Kind() {
	case reflect.Slice:
		v = v.Slice3(0, v.Cap(), v.Cap())
		for i := range v.Len() {
			b = roomy(append(b, ';'), v.Index(i))
		}
		return append(b, ']')
	case reflect.Struct:
		for i := range v.NumField() {
			b = roomy(append(b, ','), v.Field(i))
		}
		return b
	default:
		return fmt.Append(b, v.Interface())
	}
}

// whole of what a pointer points to, as text.
func whole(x any) string { return string(roomy(nil, reflect.ValueOf(x).Elem())) }

// spoil all that stands in the lists of what is pointed to, and in their room, as a caller may.
func spoil(x any) { spoilLists(reflect.ValueOf(x).Elem()) }

func spoilLists(v reflect.Value) {
	switch v.Kind() {
	case reflect.Slice:
		v = v.Slice3(0, v.Cap(), v.Cap())
		for i := range v.Len() {
			spoilLists(v.Index(i))
			change(v.Index(i))
		}
	case reflect.Struct:
		for i := range v.NumField() {
			spoilLists(v.Field(i))
		}
	}
}

// change each number, bit and byte of a value; lists stay where they are.
func change(v reflect.Value) {
	switch v.Kind() {
	case reflect.Struct:
		for i := range v.NumField() {
			change(v.Field(i))
		}
	case reflect.Array:
		for i := range v.Len() {
			change(v.Index(i))
		}
	case reflect.Bool:
		v.SetBool(!v.Bool())
	case reflect.Uint64, reflect.Uint8:
		v.SetUint(^v.Uint() & 0xff)
	}
}

// What is wanted.

func wantHeader(t *testing.T, what string, x api.State, b api.Block) {
	t.Helper()
	mustRight(t, x)
	body, err := block.RootBody(b.Body)
	if err != api.OK {
		t.Fatalf("%s: the test's own body has the error %d", what, err)
	}
	want := x
	want.Header = api.Header{Slot: b.Slot, Proposer: b.Proposer, Parent: b.Parent, Body: body}
	got, err := head.Header(x, b)
	if err != api.OK || got.Header != want.Header {
		t.Errorf("Header, %s: %v, error %d; want %v", what, got.Header, err, want.Header)
	} else if !sameState(t, got, want) {
		t.Errorf("Header, %s: something else than the header changed", what)
	}
}

func wantNoHeader(t *testing.T, what string, x api.State, b api.Block, want api.Errno) {
	t.Helper()
	if got, err := head.Header(x, b); err != want || !isZero(got) {
		t.Errorf("Header, %s: error %d, zero state %v; want error %d", what, err, isZero(got), want)
	}
}

// wantRandao, the mix of a place being the only thing that changes.
func wantRandao(t *testing.T, what string, x api.State, reveal api.Sig, bad []api.Root) {
	t.Helper()
	mustRight(t, x)
	place := x.Slot / 4 % 8
	want := x
	want.Mixes[place] = plainXor(x.Mixes[place], reveal)
	got, asked, err := head.Randao(x, reveal, bad)
	if err != api.OK || got.Mixes != want.Mixes {
		t.Errorf("Randao, %s: %x, error %d; want %x", what, got.Mixes, err, want.Mixes)
	} else if !sameState(t, got, want) {
		t.Errorf("Randao, %s: something else than the mixes changed", what)
	}
	if question := plainReveal(x, reveal); !slices.Equal(asked, []api.Root{question}) {
		t.Errorf("Randao, %s, asked: %x; want %x", what, asked, question)
	}
}

func wantNoRandao(t *testing.T, what string, x api.State, reveal api.Sig, bad []api.Root, want api.Errno, questions ...api.Root) {
	t.Helper()
	got, asked, err := head.Randao(x, reveal, bad)
	if err != want || !isZero(got) {
		t.Errorf("Randao, %s: error %d, zero state %v; want error %d", what, err, isZero(got), want)
	}
	if !slices.Equal(asked, questions) {
		t.Errorf("Randao, %s, asked: %x; want %x", what, asked, questions)
	}
}

// wantVote, and which Eth1 there is then.
func wantVote(t *testing.T, what string, x api.State, v, eth1 api.Eth1) api.State {
	t.Helper()
	mustRight(t, x)
	want := x
	want.Votes, want.Eth1 = append(slices.Clone(x.Votes), v), eth1
	got, err := head.Vote(x, v)
	if err != api.OK || !slices.Equal(got.Votes, want.Votes) || got.Eth1 != eth1 {
		t.Errorf("Vote, %s: %v, Eth1 %v, error %d; want %v, Eth1 %v", what, got.Votes, got.Eth1, err, want.Votes, eth1)
	} else if !sameState(t, got, want) {
		t.Errorf("Vote, %s: something else than the votes and Eth1 changed", what)
	}
	return got
}

func wantNoVote(t *testing.T, what string, x api.State, v api.Eth1, want api.Errno) {
	t.Helper()
	if got, err := head.Vote(x, v); err != want || !isZero(got) {
		t.Errorf("Vote, %s: error %d, zero state %v; want error %d", what, err, isZero(got), want)
	}
}
