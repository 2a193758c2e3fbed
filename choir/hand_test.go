package choir_test

import (
	"bytes"
	"crypto/sha256"
	"encoding/binary"
	"fmt"
	"math/big"
	"reflect"
	"slices"
	"testing"

	"pharos/api"
	"pharos/choir"
	"pharos/state"
)

const (
	far       = 1<<64 - 1
	top       = 1<<64 - 1
	lastSlot  = 1<<40 - 1 // of a right state
	lastEpoch = 1<<41 - 1 // of a validator of a right state, but Far
	most      = 1 << 57   // of balances or slashings together
	gwei      = 1000000000
	full      = 32 // Increments
)

// States and aggregates by hand.

// room for so many, and some spare room, so that what writes there is seen.
func room[T any](n int) []T { return make([]T, n, n+3) }

// rootOf a number: another root for each.
func rootOf(what string, v int) api.Root { return sha256.Sum256(fmt.Append(nil, what, v)) }

// rootsOf so many numbers.
func rootsOf(what string, n int) []api.Root {
	roots := make([]api.Root, n)
	for i := range roots {
		roots[i] = rootOf(what, i)
	}
	return roots
}

// keyOf a validator: another key for each.
func keyOf(v int) api.Key {
	front, back := rootOf("key", v), rootOf("key's end", v)
	return api.Key(append(front[:], back[:16]...))
}

// sigOf a number: another signature for each.
func sigOf(v int) api.Sig {
	one, two, three := rootOf("sig", v), rootOf("sig's middle", v), rootOf("sig's end", v)
	return api.Sig(slices.Concat(one[:], two[:], three[:]))
}

// eth1Of a number: another one for each.
func eth1Of(v int) api.Eth1 {
	return api.Eth1{Deposits: rootOf("deposits", v), Count: uint64(v), Block: rootOf("eth1 block", v)}
}

// eth1sOf so many numbers, from 0 on, with spare room.
func eth1sOf(n int) []api.Eth1 {
	all := room[api.Eth1](n)
	for i := range all {
		all[i] = eth1Of(i)
	}
	return all
}

// member has so many Increments, and is active from an epoch on till another.
func member(increments, activation, exit uint64) api.Validator {
	return api.Validator{Effective: increments * gwei, Eligible: far, Activation: activation, Exit: exit, Withdrawable: far}
}

// members: so many that are active always, with so many Increments each.
func members(n int, increments uint64) []api.Validator {
	return slices.Repeat([]api.Validator{member(increments, 0, far)}, n)
}

// withValidators is a state at a slot with these validators, to whom it gives keys. What stands in it is another thing in each place; of the sync committee are the validators 0 to 7.
func withValidators(slot uint64, validators ...api.Validator) api.State {
	n := len(validators)
	x := api.State{
		Genesis: 5, GenesisRoot: rootOf("genesis", 0), Slot: slot, Deposits: 9,
		Fork:   api.Fork{Previous: api.Version{1, 2, 3, 4}, Current: api.Version{5, 6, 7, 8}, Epoch: 10},
		Header: api.Header{Slot: max(slot, 1) - 1, Proposer: 3, Parent: rootOf("parent", 0), State: rootOf("state of the header", 0), Body: rootOf("body", 0)},
		Eth1:   eth1Of(100), Votes: eth1sOf(2), History: room[api.Root](2),
		Validators: room[api.Validator](n), Balances: room[uint64](n),
		Previous: room[uint8](n), Current: room[uint8](n), Scores: room[uint64](n),
		Bits:    [4]bool{true, false, true, true},
		OldJust: api.Checkpoint{Root: rootOf("justified", 0)}, Just: api.Checkpoint{Root: rootOf("justified", 1)}, Final: api.Checkpoint{Root: rootOf("final", 0)},
	}
	copy(x.History, rootsOf("history", 2))
	copy(x.Validators, validators)
	for i := range n {
		x.Validators[i].Key, x.Validators[i].Credentials = keyOf(i), rootOf("credentials", i)
		x.Balances[i], x.Scores[i], x.Previous[i], x.Current[i] = uint64(17*gwei+i), uint64(i+4), uint8(i), uint8(i+1)
	}
	for i := range 8 {
		x.BlockRoots[i], x.StateRoots[i], x.Mixes[i] = rootOf("block", i), rootOf("state", i), rootOf("mix", i)
		x.Slashings[i] = uint64(i) * gwei
		x.Sync.Keys[i], x.NextSync.Keys[i] = keyOf(i), keyOf(2000+i)
	}
	x.Sync.Sum, x.NextSync.Sum = keyOf(3000), keyOf(3001)
	return x
}

func mustRight(t *testing.T, x api.State) {
	t.Helper()
	if !state.Right(x) {
		t.Fatalf("the test's own state at slot %d with %d validators isn't right", x.Slot, len(x.Validators))
	}
}

// withCommittee is a state whose sync committee has the keys of these.
func withCommittee(x api.State, who ...int) api.State {
	for i, k := range who {
		x.Sync.Keys[i] = keyOf(k)
	}
	return x
}

// signedBy those at whose places an x stands.
func signedBy(letters string) api.SyncAggregate {
	a := api.SyncAggregate{Sig: sigOf(1)}
	for i := range letters {
		a.Bits[i] = letters[i] == 'x'
	}
	return a
}

// nobodySigns, and the signature says so.
func nobodySigns() api.SyncAggregate { return api.SyncAggregate{Sig: api.Sig{192}} }

// eachBits: all sets of bits there are, with a signature.
func eachBits() []api.SyncAggregate {
	all := make([]api.SyncAggregate, 256)
	for set := range all {
		all[set].Sig = sigOf(set)
		for i := range 8 {
			all[set].Bits[i] = set>>i&1 != 0
		}
	}
	return all
}

// Second readings of the chapters, in numbers that can't wrap and with the library's hash.

func number(n uint64) *big.Int { return new(big.Int).SetUint64(n) }

func plainTwo(a, b api.Root) api.Root { return sha256.Sum256(slices.Concat(a[:], b[:])) }

// chunk of at most 32 bytes.
func chunk(b []byte) api.Root {
	var c api.Root
	copy(c[:], b)
	return c
}

func plainActives(x api.State, epoch uint64) []uint64 {
	var all []uint64
	for i, v := range x.Validators {
		if number(v.Activation).Cmp(number(epoch)) <= 0 && number(v.Exit).Cmp(number(epoch)) > 0 {
			all = append(all, uint64(i))
		}
	}
	return all
}

func plainPlace(i, n uint64, seed []byte) uint64 {
	for r := range 6 {
		front := append(slices.Clone(seed), byte(r))
		hash := sha256.Sum256(front)
		slices.Reverse(hash[:8])
		pivot := new(big.Int).SetBytes(hash[:8])
		flip := pivot.Sub(pivot, number(i)).Mod(pivot, number(n)).Uint64()
		place := max(i, flip)
		source := sha256.Sum256(binary.LittleEndian.AppendUint32(front, uint32(place/256)))
		if source[place%256/8]&(1<<(place%8)) != 0 {
			i = flip
		}
	}
	return i
}

// plainProposer, and whether there is one.
func plainProposer(x api.State) (uint64, bool) {
	epoch := x.Slot / 4
	actives := plainActives(x, epoch)
	mix := x.Mixes[(epoch+6)%8]
	epochSeed := sha256.Sum256(append(binary.LittleEndian.AppendUint64([]byte{0, 0, 0, 0}, epoch), mix[:]...))
	seed := sha256.Sum256(binary.LittleEndian.AppendUint64(epochSeed[:], x.Slot))
	if len(actives) == 0 {
		return 0, false
	}
	n := uint64(len(actives))
	for try := range uint64(256) {
		who := actives[plainPlace(try%n, n, seed[:])]
		lots := sha256.Sum256(binary.LittleEndian.AppendUint64(slices.Clone(seed[:]), try/32))
		has := new(big.Int).Mul(number(x.Validators[who].Effective), number(255))
		asked := new(big.Int).Mul(number(32*gwei), number(uint64(lots[try%32])))
		if has.Cmp(asked) >= 0 {
			return who, true
		}
	}
	return 0, false
}

// plainDomain of a kind below 256.
func plainDomain(x api.State, kind byte, epoch uint64) api.Root {
	version := x.Fork.Current
	if number(epoch).Cmp(number(x.Fork.Epoch)) < 0 {
		version = x.Fork.Previous
	}
	hash := plainTwo(chunk(version[:]), x.GenesisRoot)
	return api.Root(append([]byte{kind, 0, 0, 0}, hash[:28]...))
}

func plainQuestion(keys []api.Key, object, domain api.Root, sig api.Sig) api.Root {
	var b []byte
	for _, key := range keys {
		b = append(b, key[:]...)
	}
	root := plainTwo(object, domain)
	return sha256.Sum256(slices.Concat(b, root[:], sig[:]))
}

// clone of a state, its lists too.
func clone(x api.State) api.State {
	x.History, x.Votes = slices.Clone(x.History), slices.Clone(x.Votes)
	x.Validators, x.Balances, x.Scores = slices.Clone(x.Validators), slices.Clone(x.Balances), slices.Clone(x.Scores)
	x.Previous, x.Current = slices.Clone(x.Previous), slices.Clone(x.Current)
	return x
}

// plainShares of a right state, by whole numbers as great as need be.
func plainShares(x api.State) (share, more uint64) {
	all := number(0)
	for _, i := range plainActives(x, x.Slot/4) {
		all.Add(all, number(x.Validators[i].Effective))
	}
	if all.Sign() == 0 {
		all = number(gwei)
	}
	root := new(big.Int).Sqrt(all)
	ofIncrement := new(big.Int).Div(number(64*gwei), root)
	base := ofIncrement.Mul(ofIncrement, all.Div(all, number(gwei)))
	part := base.Div(base.Mul(base, number(2)), number(64*4*8))
	share = part.Uint64()
	return share, part.Div(part.Mul(part, number(8)), number(56)).Uint64()
}

// askedOf an aggregate, be it asked for or not, at a slot that isn't 0.
func askedOf(x api.State, a api.SyncAggregate) api.Root {
	var keys []api.Key
	for i := range 8 {
		if a.Bits[i] {
			keys = append(keys, x.Sync.Keys[i])
		}
	}
	return plainQuestion(keys, x.BlockRoots[(x.Slot+7)%8], plainDomain(x, 7, (x.Slot-1)/4), a.Sig)
}

// answer of a call: a state, the questions, an error.
type answer struct {
	state api.State
	asked []api.Root
	err   api.Errno
}

func refused(err api.Errno, asked ...api.Root) answer { return answer{asked: asked, err: err} }

// ifStillRight is answered what the state behind a call is; ErrOver.
func ifStillRight(y api.State, asked ...api.Root) answer {
	if !state.Right(y) {
		return refused(api.ErrOver, asked...)
	}
	return answer{y, asked, api.OK}
}

// plainSync reads P21.2 once more.
func plainSync(x api.State, a api.SyncAggregate, bad []api.Root) answer {
	if !state.Right(x) {
		return refused(api.ErrArg)
	}
	if x.Slot == 0 {
		return refused(api.BadSlot)
	}
	var asked []api.Root
	zeros := make([]byte, 95)
	if slices.Contains(a.Bits[:], true) || a.Sig[0] != 0xc0 || !bytes.Equal(a.Sig[1:], zeros) {
		asked = append(asked, askedOf(x, a))
		if slices.Contains(bad, asked[0]) {
			return refused(api.BadSig, asked...)
		}
	}
	proposer, ok := plainProposer(x)
	if !ok {
		return refused(api.ErrNone, asked...)
	}
	y := clone(x)
	share, more := plainShares(x)
	for i, key := range x.Sync.Keys {
		who := slices.IndexFunc(x.Validators, func(v api.Validator) bool { return bytes.Equal(v.Key[:], key[:]) })
		switch {
		case who < 0:
			return refused(api.BadWho, asked...)
		case a.Bits[i]:
			plainGive(&y, uint64(who), number(share))
			plainGive(&y, proposer, number(more))
		default:
			plainGive(&y, uint64(who), new(big.Int).Neg(number(share)))
		}
	}
	return ifStillRight(y, asked...)
}

// plainGive a validator so much, or take it, if it is below zero; a balance isn't.
func plainGive(y *api.State, who uint64, n *big.Int) {
	has := new(big.Int).Add(number(y.Balances[who]), n)
	if has.Sign() < 0 {
		has.SetUint64(0)
	}
	y.Balances[who] = has.Uint64()
}

// What is seen of states and aggregates.

// sameState tells whether two right states are the same, nil and an empty list being so too.
func sameState(t *testing.T, a, b api.State) bool {
	t.Helper()
	one, err := state.EncState(a)
	two, err2 := state.EncState(b)
	if err != api.OK || err2 != api.OK {
		t.Fatalf("a state can't be written: errors %d, %d", err, err2)
	}
	return bytes.Equal(one, two)
}

// isZero tells whether a state is the zero one, its lists nil or empty.
func isZero(x api.State) bool {
	v := reflect.ValueOf(x)
	for i := range v.NumField() {
		f := v.Field(i)
		if f.Kind() == reflect.Slice && f.Len() > 0 || f.Kind() != reflect.Slice && !f.IsZero() {
			return false
		}
	}
	return true
}

// roomy tells a value, and of each list in it the room behind its end too.
func roomy(b []byte, v reflect.Value) []byte {
	switch v.Kind() {
	case reflect.Slice:
		v = v.Slice3(0, v.Cap(), v.Cap())
		for i := range v.Len() {
			b = roomy(append(b, ';'), v.Index(i))
		}
		return append(b, ']')
	case reflect.Struct:
		for i := range v.NumField() {
			b = roomy(append(b, ','), v.Field(i))
		}
		return b
	default:
		return fmt.Append(b, v.Interface())
	}
}

// whole of what a pointer points to, as text.
func whole(x any) string { return string(roomy(nil, reflect.ValueOf(x).Elem())) }

// spoil all that stands in the lists of what is pointed to, and in their room, as a caller may.
func spoil(x any) { spoilLists(reflect.ValueOf(x).Elem()) }

func spoilLists(v reflect.Value) {
	switch v.Kind() {
	case reflect.Slice:
		v = v.Slice3(0, v.Cap(), v.Cap())
		for i := range v.Len() {
			spoilLists(v.Index(i))
			change(v.Index(i))
		}
	case reflect.Struct, reflect.Array:
		for i := range parts(v) {
			spoilLists(part(v, i))
		}
	}
}

// change each number, bit and byte of a value; lists stay where they are.
func change(v reflect.Value) {
	switch v.Kind() {
	case reflect.Struct, reflect.Array:
		for i := range parts(v) {
			change(part(v, i))
		}
	case reflect.Bool:
		v.SetBool(!v.Bool())
	case reflect.Uint64, reflect.Uint8:
		v.SetUint(^v.Uint() & 0xff)
	}
}

// parts of a struct or an array: how many.
func parts(v reflect.Value) int {
	if v.Kind() == reflect.Struct {
		return v.NumField()
	}
	return v.Len()
}

func part(v reflect.Value, i int) reflect.Value {
	if v.Kind() == reflect.Struct {
		return v.Field(i)
	}
	return v.Index(i)
}

// What is wanted.

// wantAnswer: the error, the questions, and each part of the state.
func wantAnswer(t *testing.T, what string, got, want answer) {
	t.Helper()
	if !slices.Equal(got.asked, want.asked) {
		t.Errorf("%s, asked: %x; want %x", what, got.asked, want.asked)
	}
	if got.err != want.err {
		t.Errorf("%s: error %d; want %d", what, got.err, want.err)
		return
	}
	if want.err != api.OK {
		if !isZero(got.state) {
			t.Errorf("%s: beside the error %d the state isn't the zero one", what, want.err)
		}
		return
	}
	if len(got.state.Validators) != len(want.state.Validators) || len(got.state.Balances) != len(want.state.Balances) {
		t.Errorf("%s: %d validators, %d balances; want %d", what, len(got.state.Validators), len(got.state.Balances), len(want.state.Validators))
		return
	}
	if got.state.Slashings != want.state.Slashings {
		t.Errorf("%s: Slashings %d; want %d", what, got.state.Slashings, want.state.Slashings)
		return
	}
	for i, v := range want.state.Validators {
		if got.state.Validators[i] != v || got.state.Balances[i] != want.state.Balances[i] {
			t.Errorf("%s: validator %d: %v, balance %d; want %v, balance %d", what, i, got.state.Validators[i], got.state.Balances[i], v, want.state.Balances[i])
			return
		}
	}
	if !sameState(t, got.state, want.state) {
		t.Errorf("%s: something else changed", what)
	}
}

// wantSync by the second reading, by which it is taken, and hands on what was answered.
func wantSync(t *testing.T, what string, x api.State, a api.SyncAggregate, bad []api.Root) api.State {
	t.Helper()
	mustRight(t, x)
	want := plainSync(x, a, bad)
	if want.err != api.OK {
		t.Fatalf("%s: the second reading tells the error %d", what, want.err)
	}
	got, asked, err := choir.Sync(x, a, bad)
	wantAnswer(t, what, answer{got, asked, err}, want)
	return got
}

// wantNoSync: the same error by the second reading.
func wantNoSync(t *testing.T, what string, x api.State, a api.SyncAggregate, bad []api.Root, want api.Errno, asked ...api.Root) {
	t.Helper()
	got, questions, err := choir.Sync(x, a, bad)
	wantAnswer(t, what, answer{got, questions, err}, refused(want, asked...))
	if plain := plainSync(x, a, bad); plain.err != want || !slices.Equal(plain.asked, asked) {
		t.Errorf("%s: the second reading tells the error %d, asked %x; want %d, %x", what, plain.err, plain.asked, want, asked)
	}
}

// wantShares by the second reading, and hands them on.
func wantShares(t *testing.T, what string, x api.State) (uint64, uint64) {
	t.Helper()
	mustRight(t, x)
	share, more := choir.Shares(x)
	if one, two := plainShares(x); share != one || more != two {
		t.Errorf("Shares, %s: %d, %d; want %d, %d", what, share, more, one, two)
	}
	return share, more
}
