package vote_test

import (
	"bytes"
	"crypto/sha256"
	"encoding/binary"
	"fmt"
	"math/big"
	"reflect"
	"slices"
	"testing"

	"pharos/api"
	"pharos/state"
	"pharos/vote"
)

const (
	far       = 1<<64 - 1
	top       = 1<<64 - 1
	lastSlot  = 1<<40 - 1 // of a right state
	lastEpoch = 1<<41 - 1 // of a validator of a right state, but Far
	most      = 1 << 57   // of balances together
	gwei      = 1000000000
	full      = 32 // Increments
)

// States and attestations by hand.

// room for so many, and some spare room, so that what writes there is seen.
func room[T any](n int) []T { return make([]T, n, n+3) }

// rootOf a number: another root for each.
func rootOf(what string, v int) api.Root { return sha256.Sum256(fmt.Append(nil, what, v)) }

// rootsOf so many numbers.
func rootsOf(what string, n int) []api.Root {
	roots := make([]api.Root, n)
	for i := range roots {
		roots[i] = rootOf(what, i)
	}
	return roots
}

// keyOf a validator: another key for each.
func keyOf(v int) api.Key {
	front, back := rootOf("key", v), rootOf("key's end", v)
	return api.Key(append(front[:], back[:16]...))
}

// sigOf a number: another signature for each.
func sigOf(v int) api.Sig {
	one, two, three := rootOf("sig", v), rootOf("sig's middle", v), rootOf("sig's end", v)
	return api.Sig(slices.Concat(one[:], two[:], three[:]))
}

// eth1sOf so many numbers, from 0 on, with spare room.
func eth1sOf(n int) []api.Eth1 {
	all := room[api.Eth1](n)
	for i := range all {
		all[i] = api.Eth1{Deposits: rootOf("deposits", i), Count: uint64(i), Block: rootOf("eth1 block", i)}
	}
	return all
}

// member has so many Increments, and is active from an epoch on till another.
func member(increments, activation, exit uint64) api.Validator {
	return api.Validator{Effective: increments * gwei, Eligible: far, Activation: activation, Exit: exit, Withdrawable: far}
}

// members: so many that are active always, with so many Increments each.
func members(n int, increments uint64) []api.Validator {
	return slices.Repeat([]api.Validator{member(increments, 0, far)}, n)
}

// withValidators is a state at a slot with these validators, to whom it gives keys. What stands in it is another thing in each place. Nobody has one of the three flags, but others.
func withValidators(slot uint64, validators ...api.Validator) api.State {
	n := len(validators)
	x := api.State{
		Genesis: 5, GenesisRoot: rootOf("genesis", 0), Slot: slot, Deposits: 9,
		Fork:   api.Fork{Previous: api.Version{1, 2, 3, 4}, Current: api.Version{5, 6, 7, 8}, Epoch: 10},
		Header: api.Header{Slot: max(slot, 1) - 1, Proposer: 3, Parent: rootOf("parent", 0), State: rootOf("state of the header", 0), Body: rootOf("body", 0)},
		Votes:  eth1sOf(2), History: room[api.Root](2),
		Validators: room[api.Validator](n), Balances: room[uint64](n),
		Previous: room[uint8](n), Current: room[uint8](n), Scores: room[uint64](n),
		Bits:    [4]bool{true, false, true, true},
		OldJust: api.Checkpoint{Epoch: max(slot/4, 2) - 2, Root: rootOf("justified", 0)},
		Just:    api.Checkpoint{Epoch: max(slot/4, 1) - 1, Root: rootOf("justified", 1)},
		Final:   api.Checkpoint{Root: rootOf("final", 0)},
	}
	copy(x.History, rootsOf("history", 2))
	copy(x.Validators, validators)
	for i := range n {
		x.Validators[i].Key, x.Validators[i].Credentials = keyOf(i), rootOf("credentials", i)
		x.Balances[i], x.Scores[i], x.Previous[i], x.Current[i] = uint64(17*gwei+i), uint64(i+4), uint8(8*i), uint8(8*i+40)
	}
	for i := range 8 {
		x.BlockRoots[i], x.StateRoots[i], x.Mixes[i] = rootOf("block", i), rootOf("state", i), rootOf("mix", i)
		x.Slashings[i] = uint64(i) * gwei
		x.Sync.Keys[i], x.NextSync.Keys[i] = keyOf(1000+i), keyOf(2000+i)
	}
	x.Sync.Sum, x.NextSync.Sum = keyOf(3000), keyOf(3001)
	return x
}

func mustRight(t *testing.T, x api.State) {
	t.Helper()
	if !state.Right(x) {
		t.Fatalf("the test's own state at slot %d with %d validators isn't right", x.Slot, len(x.Validators))
	}
}

// dataAt a slot, by which all is right that the state tells.
func dataAt(x api.State, slot, index uint64) api.Data {
	d := api.Data{
		Slot: slot, Index: index, Block: x.BlockRoots[slot%8],
		Source: x.OldJust, Target: api.Checkpoint{Epoch: slot / 4, Root: x.BlockRoots[slot/4*4%8]},
	}
	if slot/4 == x.Slot/4 {
		d.Source = x.Just
	}
	return d
}

// bitsOf so many, all of them set, with spare room.
func bitsOf(n int) []bool {
	l := room[bool](n)
	for i := range l {
		l[i] = true
	}
	return l
}

// attestAt a slot: all of a committee attest what is right.
func attestAt(x api.State, slot, index uint64) api.Attest {
	return api.Attest{Bits: bitsOf(len(plainCommittee(x, slot, index))), Data: dataAt(x, slot, index), Sig: sigOf(1)}
}

// flagsOf a text of the flags' letters.
func flagsOf(letters string) [3]bool {
	var flags [3]bool
	for i, letter := range "STH" {
		flags[i] = bytes.ContainsRune([]byte(letters), letter)
	}
	return flags
}

// Second readings of the chapters, in numbers that can't wrap and with the library's hash.

func number(n uint64) *big.Int { return new(big.Int).SetUint64(n) }

func plainTwo(a, b api.Root) api.Root { return sha256.Sum256(slices.Concat(a[:], b[:])) }

// chunk of at most 32 bytes.
func chunk(b []byte) api.Root {
	var c api.Root
	copy(c[:], b)
	return c
}

func numberChunk(n uint64) api.Root { return chunk(binary.LittleEndian.AppendUint64(nil, n)) }

// eightRoot of up to eight leaves, zeros behind them.
func eightRoot(leaves ...api.Root) api.Root {
	var l [8]api.Root
	copy(l[:], leaves)
	return plainTwo(plainTwo(plainTwo(l[0], l[1]), plainTwo(l[2], l[3])), plainTwo(plainTwo(l[4], l[5]), plainTwo(l[6], l[7])))
}

func plainDataRoot(d api.Data) api.Root {
	source, target := plainTwo(numberChunk(d.Source.Epoch), d.Source.Root), plainTwo(numberChunk(d.Target.Epoch), d.Target.Root)
	return eightRoot(numberChunk(d.Slot), numberChunk(d.Index), d.Block, source, target)
}

func plainActives(x api.State, epoch uint64) []uint64 {
	var all []uint64
	for i, v := range x.Validators {
		if number(v.Activation).Cmp(number(epoch)) <= 0 && number(v.Exit).Cmp(number(epoch)) > 0 {
			all = append(all, uint64(i))
		}
	}
	return all
}

func plainPlace(i, n uint64, seed []byte) uint64 {
	for r := range 6 {
		front := append(slices.Clone(seed), byte(r))
		hash := sha256.Sum256(front)
		slices.Reverse(hash[:8])
		pivot := new(big.Int).SetBytes(hash[:8])
		flip := pivot.Sub(pivot, number(i)).Mod(pivot, number(n)).Uint64()
		place := max(i, flip)
		source := sha256.Sum256(binary.LittleEndian.AppendUint32(front, uint32(place/256)))
		if source[place%256/8]&(1<<(place%8)) != 0 {
			i = flip
		}
	}
	return i
}

// plainSeed of a kind below 256.
func plainSeed(x api.State, epoch uint64, kind byte) []byte {
	mix := x.Mixes[(epoch+6)%8]
	hash := sha256.Sum256(append(binary.LittleEndian.AppendUint64([]byte{kind, 0, 0, 0}, epoch), mix[:]...))
	return hash[:]
}

// plainProposer, and whether there is one.
func plainProposer(x api.State) (uint64, bool) {
	actives := plainActives(x, x.Slot/4)
	seed := sha256.Sum256(binary.LittleEndian.AppendUint64(plainSeed(x, x.Slot/4, 0), x.Slot))
	if len(actives) == 0 {
		return 0, false
	}
	n := uint64(len(actives))
	for try := range uint64(256) {
		who := actives[plainPlace(try%n, n, seed[:])]
		lots := sha256.Sum256(binary.LittleEndian.AppendUint64(slices.Clone(seed[:]), try/32))
		has := new(big.Int).Mul(number(x.Validators[who].Effective), number(255))
		asked := new(big.Int).Mul(number(32*gwei), number(uint64(lots[try%32])))
		if has.Cmp(asked) >= 0 {
			return who, true
		}
	}
	return 0, false
}

// plainCount of the committees of a slot: a second one needs two actives for each of the four slots once more.
func plainCount(x api.State, epoch uint64) uint64 {
	if len(plainActives(x, epoch)) < 16 {
		return 1
	}
	return 2
}

// plainCommittee of an index that is there.
func plainCommittee(x api.State, slot, index uint64) []uint64 {
	actives, seed := plainActives(x, slot/4), plainSeed(x, slot/4, 1)
	n, count := uint64(len(actives)), plainCount(x, slot/4)
	k := slot%4*count + index
	var l []uint64
	for i := n * k / (4 * count); i < n*(k+1)/(4*count); i++ {
		l = append(l, actives[plainPlace(i, n, seed)])
	}
	return l
}

// plainReward of a validator that is there.
func plainReward(x api.State, i uint64) *big.Int {
	all := number(0)
	for _, k := range plainActives(x, x.Slot/4) {
		all.Add(all, number(x.Validators[k].Effective))
	}
	if all.Cmp(number(gwei)) < 0 {
		all = number(gwei)
	}
	ofIncrement := number(64 * gwei)
	ofIncrement.Div(ofIncrement, new(big.Int).Sqrt(all))
	return ofIncrement.Mul(ofIncrement, number(x.Validators[i].Effective/gwei))
}

// plainDomain of attesters in an epoch.
func plainDomain(x api.State, kind byte, epoch uint64) api.Root {
	version := x.Fork.Current
	if number(epoch).Cmp(number(x.Fork.Epoch)) < 0 {
		version = x.Fork.Previous
	}
	hash := plainTwo(chunk(version[:]), x.GenesisRoot)
	return api.Root(append([]byte{kind, 0, 0, 0}, hash[:28]...))
}

func plainQuestion(keys []api.Key, object, domain api.Root, sig api.Sig) api.Root {
	var b []byte
	for _, key := range keys {
		b = append(b, key[:]...)
	}
	root := plainTwo(object, domain)
	return sha256.Sum256(slices.Concat(b, root[:], sig[:]))
}

// keysOf validators, in this order.
func keysOf(x api.State, who []uint64) []api.Key {
	var keys []api.Key
	for _, i := range who {
		keys = append(keys, x.Validators[i].Key)
	}
	return keys
}

// plainWho of a committee attests: each validator is asked, from the first on, so they rise by themselves.
func plainWho(x api.State, a api.Attest) []uint64 {
	committee := plainCommittee(x, a.Data.Slot, a.Data.Index)
	var who []uint64
	for i := range uint64(len(x.Validators)) {
		if at := slices.Index(committee, i); at >= 0 && a.Bits[at] {
			who = append(who, i)
		}
	}
	return who
}

// askedOf an attestation whose bits are as many as its committee.
func askedOf(x api.State, a api.Attest) api.Root {
	return plainQuestion(keysOf(x, plainWho(x, a)), plainDataRoot(a.Data), plainDomain(x, 1, a.Data.Target.Epoch), a.Sig)
}

// plainTime: BadEpoch, BadDelay.
func plainTime(x api.State, d api.Data) api.Errno {
	epoch, target, slot := number(x.Slot/4), number(d.Target.Epoch), number(d.Slot)
	behind := new(big.Int).Sub(epoch, target)
	within := new(big.Int).Sub(slot, new(big.Int).Mul(target, number(4)))
	delay := new(big.Int).Sub(number(x.Slot), slot)
	switch {
	case behind.Sign() < 0, behind.Cmp(number(1)) > 0, within.Sign() < 0, within.Cmp(number(3)) > 0:
		return api.BadEpoch
	case delay.Cmp(number(1)) < 0, delay.Cmp(number(4)) > 0:
		return api.BadDelay
	}
	return api.OK
}

func plainSource(x api.State, d api.Data) api.Errno {
	source := x.OldJust
	if d.Target.Epoch+1 != x.Slot/4 {
		source = x.Just
	}
	if d.Source.Epoch != source.Epoch || d.Source.Root != source.Root {
		return api.BadSource
	}
	return api.OK
}

// plainFlags reads P19.1 once more.
func plainFlags(x api.State, d api.Data) ([3]bool, api.Errno) {
	if !state.Right(x) {
		return [3]bool{}, api.ErrArg
	}
	if err := plainTime(x, d); err != api.OK {
		return [3]bool{}, err
	}
	if err := plainSource(x, d); err != api.OK {
		return [3]bool{}, err
	}
	var flags [3]bool
	flags[1] = d.Target.Root == x.BlockRoots[d.Slot/4%2*4]
	switch x.Slot - d.Slot {
	case 1:
		flags[2] = flags[1] && d.Block == x.BlockRoots[d.Slot%8]
		fallthrough
	case 2:
		flags[0] = true
	}
	return flags, api.OK
}

// answer of a call: a state, the questions, an error.
type answer struct {
	state api.State
	asked []api.Root
	err   api.Errno
}

func refused(err api.Errno, asked ...api.Root) answer { return answer{asked: asked, err: err} }

// plainAttest reads P19.2 once more.
func plainAttest(x api.State, a api.Attest, bad []api.Root) answer {
	if !state.Right(x) {
		return refused(api.ErrArg)
	}
	if len(a.Bits) > 64 {
		return refused(api.ErrLong)
	}
	if err := plainTime(x, a.Data); err != api.OK {
		return refused(err)
	}
	if a.Data.Index >= plainCount(x, a.Data.Slot/4) {
		return refused(api.BadIndex)
	}
	if len(a.Bits) != len(plainCommittee(x, a.Data.Slot, a.Data.Index)) {
		return refused(api.BadBits)
	}
	flags, err := plainFlags(x, a.Data)
	if err != api.OK {
		return refused(err)
	}
	who := plainWho(x, a)
	if who == nil {
		return refused(api.BadList)
	}
	asked := askedOf(x, a)
	if slices.Contains(bad, asked) {
		return refused(api.BadSig, asked)
	}
	proposer, ok := plainProposer(x)
	if !ok {
		return refused(api.ErrNone, asked)
	}
	y := plainPaid(x, who, flags, a.Data.Target.Epoch, proposer)
	if !state.Right(y) {
		return refused(api.ErrOver, asked)
	}
	return answer{y, []api.Root{asked}, api.OK}
}

// plainPaid: the flags are set one kind behind the other, and each pays what it is worth.
func plainPaid(x api.State, who []uint64, flags [3]bool, target, proposer uint64) api.State {
	y := clone(x)
	list := y.Previous
	if target == x.Slot/4 {
		list = y.Current
	}
	sum := number(0)
	for flag, weight := range []uint64{14, 26, 14} {
		for _, i := range who {
			if flags[flag] && list[i]/(1<<flag)%2 == 0 {
				list[i] += 1 << flag
				part := plainReward(x, i)
				sum.Add(sum, part.Mul(part, number(weight)))
			}
		}
	}
	sum.Div(sum, number(448))
	y.Balances[proposer] = sum.Add(sum, number(y.Balances[proposer])).Uint64()
	return y
}

// What is seen of states and attestations.

// clone of a state, its lists too.
func clone(x api.State) api.State {
	x.History, x.Votes = slices.Clone(x.History), slices.Clone(x.Votes)
	x.Validators, x.Balances, x.Scores = slices.Clone(x.Validators), slices.Clone(x.Balances), slices.Clone(x.Scores)
	x.Previous, x.Current = slices.Clone(x.Previous), slices.Clone(x.Current)
	return x
}

// sameState tells whether two right states are the same, nil and an empty list being so too.
func sameState(t *testing.T, a, b api.State) bool {
	t.Helper()
	one, err := state.EncState(a)
	two, err2 := state.EncState(b)
	if err != api.OK || err2 != api.OK {
		t.Fatalf("a state can't be written: errors %d, %d", err, err2)
	}
	return bytes.Equal(one, two)
}

// isZero tells whether a state is the zero one, its lists nil or empty.
func isZero(x api.State) bool {
	v := reflect.ValueOf(x)
	for i := range v.NumField() {
		f := v.Field(i)
		if f.Kind() == reflect.Slice && f.Len() > 0 || f.Kind() != reflect.Slice && !f.IsZero() {
			return false
		}
	}
	return true
}

// roomy tells a value, and of each list in it the room behind its end too.
func roomy(b []byte, v reflect.Value) []byte {
	switch v.Kind() {
	case reflect.Slice:
		v = v.Slice3(0, v.Cap(), v.Cap())
		for i := range v.Len() {
			b = roomy(append(b, ';'), v.Index(i))
		}
		return append(b, ']')
	case reflect.Struct:
		for i := range v.NumField() {
			b = roomy(append(b, ','), v.Field(i))
		}
		return b
	default:
		return fmt.Append(b, v.Interface())
	}
}

// whole of what a pointer points to, as text.
func whole(x any) string { return string(roomy(nil, reflect.ValueOf(x).Elem())) }

// spoil all that stands in the lists of what is pointed to, and in their room, as a caller may.
func spoil(x any) { spoilLists(reflect.ValueOf(x).Elem()) }

func spoilLists(v reflect.Value) {
	switch v.Kind() {
	case reflect.Slice:
		v = v.Slice3(0, v.Cap(), v.Cap())
		for i := range v.Len() {
			spoilLists(v.Index(i))
			change(v.Index(i))
		}
	case reflect.Struct:
		for i := range v.NumField() {
			spoilLists(v.Field(i))
		}
	}
}

// change each number, bit and byte of a value; lists stay where they are.
func change(v reflect.Value) {
	switch v.Kind() {
	case reflect.Struct:
		for i := range v.NumField() {
			change(v.Field(i))
		}
	case reflect.Array:
		for i := range v.Len() {
			change(v.Index(i))
		}
	case reflect.Bool:
		v.SetBool(!v.Bool())
	case reflect.Uint64, reflect.Uint8:
		v.SetUint(^v.Uint() & 0xff)
	}
}

// What is wanted.

// wantFlags, by this text and by the second reading.
func wantFlags(t *testing.T, what string, x api.State, d api.Data, letters string) {
	t.Helper()
	mustRight(t, x)
	want := flagsOf(letters)
	if got, err := vote.Flags(x, d); got != want || err != api.OK {
		t.Errorf("Flags, %s: %v, error %d; want %v", what, got, err, want)
	}
	if plain, err := plainFlags(x, d); plain != want || err != api.OK {
		t.Errorf("%s: the second reading tells %v, error %d; want %v", what, plain, err, want)
	}
}

func wantNoFlags(t *testing.T, what string, x api.State, d api.Data, want api.Errno) {
	t.Helper()
	if got, err := vote.Flags(x, d); got != [3]bool{} || err != want {
		t.Errorf("Flags, %s: %v, error %d; want the error %d", what, got, err, want)
	}
	if _, err := plainFlags(x, d); err != want {
		t.Errorf("%s: the second reading tells the error %d; want %d", what, err, want)
	}
}

// wantAnswer: the error, the questions, and each part of the state.
func wantAnswer(t *testing.T, what string, got, want answer) {
	t.Helper()
	if !slices.Equal(got.asked, want.asked) {
		t.Errorf("%s, asked: %x; want %x", what, got.asked, want.asked)
	}
	if got.err != want.err {
		t.Errorf("%s: error %d; want %d", what, got.err, want.err)
		return
	}
	if want.err != api.OK {
		if !isZero(got.state) {
			t.Errorf("%s: beside the error %d the state isn't the zero one", what, want.err)
		}
		return
	}
	if !bytes.Equal(got.state.Previous, want.state.Previous) || !bytes.Equal(got.state.Current, want.state.Current) {
		t.Errorf("%s: flags %d and %d; want %d and %d", what, got.state.Previous, got.state.Current, want.state.Previous, want.state.Current)
		return
	}
	if !slices.Equal(got.state.Balances, want.state.Balances) {
		t.Errorf("%s: balances %d; want %d", what, got.state.Balances, want.state.Balances)
		return
	}
	if !sameState(t, got.state, want.state) {
		t.Errorf("%s: something else changed", what)
	}
}

// wantAttest is taken, and hands on what was answered.
func wantAttest(t *testing.T, what string, x api.State, a api.Attest, bad []api.Root) api.State {
	t.Helper()
	mustRight(t, x)
	want := plainAttest(x, a, bad)
	if want.err != api.OK {
		t.Fatalf("Attest, %s: the second reading tells the error %d", what, want.err)
	}
	got, asked, err := vote.Attest(x, a, bad)
	wantAnswer(t, "Attest, "+what, answer{got, asked, err}, want)
	return got
}

func wantNoAttest(t *testing.T, what string, x api.State, a api.Attest, bad []api.Root, want api.Errno, asked ...api.Root) {
	t.Helper()
	got, questions, err := vote.Attest(x, a, bad)
	wantAnswer(t, "Attest, "+what, answer{got, questions, err}, refused(want, asked...))
}
