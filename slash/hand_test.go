package slash_test

import (
	"bytes"
	"crypto/sha256"
	"encoding/binary"
	"fmt"
	"math/big"
	"reflect"
	"slices"
	"testing"

	"pharos/api"
	"pharos/slash"
	"pharos/state"
)

const (
	far       = 1<<64 - 1
	top       = 1<<64 - 1
	lastSlot  = 1<<40 - 1 // of a right state
	lastEpoch = 1<<41 - 1 // of a validator of a right state, but Far
	most      = 1 << 57   // of balances or slashings together
	gwei      = 1000000000
	full      = 32 // Increments
	half      = gwei / 2
	sixteenth = gwei / 16
)

// States and slashings by hand.

// room for so many, and some spare room, so that what writes there is seen.
func room[T any](n int) []T { return make([]T, n, n+3) }

// rootOf a number: another root for each.
func rootOf(what string, v int) api.Root { return sha256.Sum256(fmt.Append(nil, what, v)) }

// rootsOf so many numbers.
func rootsOf(what string, n int) []api.Root {
	roots := make([]api.Root, n)
	for i := range roots {
		roots[i] = rootOf(what, i)
	}
	return roots
}

// keyOf a validator: another key for each.
func keyOf(v int) api.Key {
	front, back := rootOf("key", v), rootOf("key's end", v)
	return api.Key(append(front[:], back[:16]...))
}

// sigOf a number: another signature for each.
func sigOf(v int) api.Sig {
	one, two, three := rootOf("sig", v), rootOf("sig's middle", v), rootOf("sig's end", v)
	return api.Sig(slices.Concat(one[:], two[:], three[:]))
}

// eth1Of a number: another one for each.
func eth1Of(v int) api.Eth1 {
	return api.Eth1{Deposits: rootOf("deposits", v), Count: uint64(v), Block: rootOf("eth1 block", v)}
}

// eth1sOf so many numbers, from 0 on, with spare room.
func eth1sOf(n int) []api.Eth1 {
	all := room[api.Eth1](n)
	for i := range all {
		all[i] = eth1Of(i)
	}
	return all
}

// member has so many Increments, and is active from an epoch on till another.
func member(increments, activation, exit uint64) api.Validator {
	return api.Validator{Effective: increments * gwei, Eligible: far, Activation: activation, Exit: exit, Withdrawable: far}
}

// members: so many that are active always, with so many Increments each.
func members(n int, increments uint64) []api.Validator {
	return slices.Repeat([]api.Validator{member(increments, 0, far)}, n)
}

// leavers: one that is active always and is full for each exit; those who leave can be withdrawn two epochs later.
func leavers(exits ...uint64) []api.Validator {
	var all []api.Validator
	for _, exit := range exits {
		v := member(full, 0, exit)
		if exit != far {
			v.Withdrawable = exit + 2
		}
		all = append(all, v)
	}
	return all
}

// withValidators is a state at a slot with these validators, to whom it gives keys. What stands in it is another thing in each place.
func withValidators(slot uint64, validators ...api.Validator) api.State {
	n := len(validators)
	x := api.State{
		Genesis: 5, GenesisRoot: rootOf("genesis", 0), Slot: slot, Deposits: 9,
		Fork:   api.Fork{Previous: api.Version{1, 2, 3, 4}, Current: api.Version{5, 6, 7, 8}, Epoch: 10},
		Header: api.Header{Slot: max(slot, 1) - 1, Proposer: 3, Parent: rootOf("parent", 0), State: rootOf("state of the header", 0), Body: rootOf("body", 0)},
		Eth1:   eth1Of(100), Votes: eth1sOf(2), History: room[api.Root](2),
		Validators: room[api.Validator](n), Balances: room[uint64](n),
		Previous: room[uint8](n), Current: room[uint8](n), Scores: room[uint64](n),
		Bits:    [4]bool{true, false, true, true},
		OldJust: api.Checkpoint{Root: rootOf("justified", 0)}, Just: api.Checkpoint{Root: rootOf("justified", 1)}, Final: api.Checkpoint{Root: rootOf("final", 0)},
	}
	copy(x.History, rootsOf("history", 2))
	copy(x.Validators, validators)
	for i := range n {
		x.Validators[i].Key, x.Validators[i].Credentials = keyOf(i), rootOf("credentials", i)
		x.Balances[i], x.Scores[i], x.Previous[i], x.Current[i] = uint64(17*gwei+i), uint64(i+4), uint8(i), uint8(i+1)
	}
	for i := range 8 {
		x.BlockRoots[i], x.StateRoots[i], x.Mixes[i] = rootOf("block", i), rootOf("state", i), rootOf("mix", i)
		x.Slashings[i] = uint64(i) * gwei
		x.Sync.Keys[i], x.NextSync.Keys[i] = keyOf(1000+i), keyOf(2000+i)
	}
	x.Sync.Sum, x.NextSync.Sum = keyOf(3000), keyOf(3001)
	return x
}

func mustRight(t *testing.T, x api.State) {
	t.Helper()
	if !state.Right(x) {
		t.Fatalf("the test's own state at slot %d with %d validators isn't right", x.Slot, len(x.Validators))
	}
}

// headersOf a proposer for a slot: two that clash.
func headersOf(slot, proposer uint64) api.ProposerSlashing {
	h := api.Header{Slot: slot, Proposer: proposer, Parent: rootOf("a parent", 0), State: rootOf("a state", 0), Body: rootOf("a body", 0)}
	s := api.ProposerSlashing{One: api.SignedHeader{Header: h, Sig: sigOf(1)}, Two: api.SignedHeader{Header: h, Sig: sigOf(2)}}
	s.Two.Header.Body = rootOf("a body", 1)
	return s
}

// dataOf a source's and a target's epoch.
func dataOf(source, target uint64) api.Data {
	return api.Data{
		Slot: 4 * target, Index: 1, Block: rootOf("attested", 0),
		Source: api.Checkpoint{Epoch: source, Root: rootOf("source", 0)}, Target: api.Checkpoint{Epoch: target, Root: rootOf("target", 0)},
	}
}

// withRoom copies a list into one with spare room.
func withRoom(who []uint64) []uint64 {
	l := room[uint64](len(who))
	copy(l, who)
	return l
}

// doubleOf one and another list: two attestations for one target, of the epoch 24.
func doubleOf(one, two []uint64) api.AttesterSlashing {
	s := api.AttesterSlashing{
		One: api.Indexed{Who: withRoom(one), Data: dataOf(23, 24), Sig: sigOf(1)},
		Two: api.Indexed{Who: withRoom(two), Data: dataOf(23, 24), Sig: sigOf(2)},
	}
	s.Two.Data.Block = rootOf("attested", 1)
	return s
}

// upTo so many indices, rising from a first one on.
func upTo(first uint64, n int) []uint64 {
	var who []uint64
	for i := range uint64(n) {
		who = append(who, first+i)
	}
	return who
}

// Second readings of the chapters, with the library's hash.

func number(n uint64) *big.Int { return new(big.Int).SetUint64(n) }

func plainTwo(a, b api.Root) api.Root { return sha256.Sum256(slices.Concat(a[:], b[:])) }

// chunk of at most 32 bytes.
func chunk(b []byte) api.Root {
	var c api.Root
	copy(c[:], b)
	return c
}

func numberChunk(n uint64) api.Root { return chunk(binary.LittleEndian.AppendUint64(nil, n)) }

// eightRoot of up to eight leaves, zeros behind them.
func eightRoot(leaves ...api.Root) api.Root {
	var l [8]api.Root
	copy(l[:], leaves)
	return plainTwo(plainTwo(plainTwo(l[0], l[1]), plainTwo(l[2], l[3])), plainTwo(plainTwo(l[4], l[5]), plainTwo(l[6], l[7])))
}

func plainHeaderRoot(h api.Header) api.Root {
	return eightRoot(numberChunk(h.Slot), numberChunk(h.Proposer), h.Parent, h.State, h.Body)
}

func plainDataRoot(d api.Data) api.Root {
	source, target := plainTwo(numberChunk(d.Source.Epoch), d.Source.Root), plainTwo(numberChunk(d.Target.Epoch), d.Target.Root)
	return eightRoot(numberChunk(d.Slot), numberChunk(d.Index), d.Block, source, target)
}

func plainActives(x api.State, epoch uint64) []uint64 {
	var all []uint64
	for i, v := range x.Validators {
		if number(v.Activation).Cmp(number(epoch)) <= 0 && number(v.Exit).Cmp(number(epoch)) > 0 {
			all = append(all, uint64(i))
		}
	}
	return all
}

func plainPlace(i, n uint64, seed []byte) uint64 {
	for r := range 6 {
		front := append(slices.Clone(seed), byte(r))
		hash := sha256.Sum256(front)
		slices.Reverse(hash[:8])
		pivot := new(big.Int).SetBytes(hash[:8])
		flip := pivot.Sub(pivot, number(i)).Mod(pivot, number(n)).Uint64()
		place := max(i, flip)
		source := sha256.Sum256(binary.LittleEndian.AppendUint32(front, uint32(place/256)))
		if source[place%256/8]&(1<<(place%8)) != 0 {
			i = flip
		}
	}
	return i
}

// plainProposer, and whether there is one.
func plainProposer(x api.State) (uint64, bool) {
	epoch := x.Slot / 4
	actives := plainActives(x, epoch)
	mix := x.Mixes[(epoch+6)%8]
	epochSeed := sha256.Sum256(append(binary.LittleEndian.AppendUint64([]byte{0, 0, 0, 0}, epoch), mix[:]...))
	seed := sha256.Sum256(binary.LittleEndian.AppendUint64(epochSeed[:], x.Slot))
	if len(actives) == 0 {
		return 0, false
	}
	n := uint64(len(actives))
	for try := range uint64(256) {
		who := actives[plainPlace(try%n, n, seed[:])]
		lots := sha256.Sum256(binary.LittleEndian.AppendUint64(slices.Clone(seed[:]), try/32))
		has := new(big.Int).Mul(number(x.Validators[who].Effective), number(255))
		asked := new(big.Int).Mul(number(32*gwei), number(uint64(lots[try%32])))
		if has.Cmp(asked) >= 0 {
			return who, true
		}
	}
	return 0, false
}

// plainDomain of a kind below 256.
func plainDomain(x api.State, kind byte, epoch uint64) api.Root {
	version := x.Fork.Current
	if number(epoch).Cmp(number(x.Fork.Epoch)) < 0 {
		version = x.Fork.Previous
	}
	hash := plainTwo(chunk(version[:]), x.GenesisRoot)
	return api.Root(append([]byte{kind, 0, 0, 0}, hash[:28]...))
}

func plainQuestion(keys []api.Key, object, domain api.Root, sig api.Sig) api.Root {
	var b []byte
	for _, key := range keys {
		b = append(b, key[:]...)
	}
	root := plainTwo(object, domain)
	return sha256.Sum256(slices.Concat(b, root[:], sig[:]))
}

// askedOfHeader: the question of a signed header, whose proposer is there.
func askedOfHeader(x api.State, h api.SignedHeader) api.Root {
	keys := []api.Key{x.Validators[h.Header.Proposer].Key}
	return plainQuestion(keys, plainHeaderRoot(h.Header), plainDomain(x, 0, h.Header.Slot/4), h.Sig)
}

// askedOfAttest: the question of an attestation, all of whose validators are there.
func askedOfAttest(x api.State, a api.Indexed) api.Root {
	var keys []api.Key
	for _, i := range a.Who {
		keys = append(keys, x.Validators[i].Key)
	}
	return plainQuestion(keys, plainDataRoot(a.Data), plainDomain(x, 1, a.Data.Target.Epoch), a.Sig)
}

func askedOfHeaders(x api.State, s api.ProposerSlashing) []api.Root {
	return []api.Root{askedOfHeader(x, s.One), askedOfHeader(x, s.Two)}
}

func askedOfAttests(x api.State, s api.AttesterSlashing) []api.Root {
	return []api.Root{askedOfAttest(x, s.One), askedOfAttest(x, s.Two)}
}

// clone of a state, its lists too.
func clone(x api.State) api.State {
	x.History, x.Votes = slices.Clone(x.History), slices.Clone(x.Votes)
	x.Validators, x.Balances, x.Scores = slices.Clone(x.Validators), slices.Clone(x.Balances), slices.Clone(x.Scores)
	x.Previous, x.Current = slices.Clone(x.Previous), slices.Clone(x.Current)
	return x
}

// plainLeave changes a state's validator, by the lists of all exits.
func plainLeave(x *api.State, i uint64) {
	if x.Validators[i].Exit != far {
		return
	}
	epoch := x.Slot / 4
	exits := []uint64{epoch + 3}
	for _, v := range x.Validators {
		exits = append(exits, v.Exit)
	}
	exits = slices.DeleteFunc(exits, func(exit uint64) bool { return exit == far })
	last := slices.Max(exits)
	same := -1 // the first of the list is nobody's
	if last > epoch+3 {
		same = 0
	}
	for _, exit := range exits {
		if exit == last {
			same++
		}
	}
	if same >= max(2, len(plainActives(*x, epoch))/32) {
		last++
	}
	x.Validators[i].Exit, x.Validators[i].Withdrawable = last, last+2
}

// plainSlash changes a state, in numbers that can't wrap.
func plainSlash(x *api.State, i, proposer uint64) {
	plainLeave(x, i)
	epoch := x.Slot / 4
	v := x.Validators[i]
	v.Slashed = true
	if v.Withdrawable < epoch+8 {
		v.Withdrawable = epoch + 8
	}
	x.Validators[i] = v
	x.Slashings[epoch%8] = new(big.Int).Add(number(x.Slashings[epoch%8]), number(v.Effective)).Uint64()
	left := new(big.Int).Sub(number(x.Balances[i]), new(big.Int).Div(number(v.Effective), number(64)))
	if left.Sign() < 0 {
		left.SetUint64(0)
	}
	x.Balances[i] = left.Uint64()
	more := new(big.Int).Div(number(v.Effective), number(512))
	x.Balances[proposer] = more.Add(more, number(x.Balances[proposer])).Uint64()
}

// answer of a call: a state, the questions, an error.
type answer struct {
	state api.State
	asked []api.Root
	err   api.Errno
}

func refused(err api.Errno, asked ...api.Root) answer { return answer{asked: asked, err: err} }

// plainSlashAll of these, who are there.
func plainSlashAll(x api.State, who []uint64, asked ...api.Root) answer {
	proposer, ok := plainProposer(x)
	if !ok {
		return refused(api.ErrNone, asked...)
	}
	y := clone(x)
	for _, i := range who {
		plainSlash(&y, i, proposer)
	}
	if !state.Right(y) {
		return refused(api.ErrOver, asked...)
	}
	return answer{y, asked, api.OK}
}

func plainCan(x api.State, i uint64) bool {
	v, epoch := x.Validators[i], x.Slot/4
	return !v.Slashed && v.Activation <= epoch && epoch < v.Withdrawable
}

// plainProposers reads P18.2 once more.
func plainProposers(x api.State, s api.ProposerSlashing, bad []api.Root) answer {
	one, two := s.One.Header, s.Two.Header
	switch {
	case !state.Right(x):
		return refused(api.ErrArg)
	case one.Slot != two.Slot:
		return refused(api.BadSlot)
	case one.Proposer != two.Proposer:
		return refused(api.BadWho)
	case one.Parent == two.Parent && one.State == two.State && one.Body == two.Body:
		return refused(api.BadSame)
	case one.Proposer >= uint64(len(x.Validators)):
		return refused(api.BadWho)
	case !plainCan(x, one.Proposer):
		return refused(api.BadSlashed)
	}
	asked := askedOfHeaders(x, s)
	for i, q := range asked {
		if slices.Contains(bad, q) {
			return refused(api.BadSig, asked[:i+1]...)
		}
	}
	return plainSlashAll(x, []uint64{one.Proposer}, asked...)
}

// plainAttesters reads P18.3 once more.
func plainAttesters(x api.State, s api.AttesterSlashing, bad []api.Root) answer {
	one, two := s.One.Data, s.Two.Data
	double := one.Target.Epoch == two.Target.Epoch && !reflect.DeepEqual(one, two)
	around := one.Source.Epoch < two.Source.Epoch && one.Target.Epoch > two.Target.Epoch
	switch {
	case !state.Right(x):
		return refused(api.ErrArg)
	case max(len(s.One.Who), len(s.Two.Who)) > 64:
		return refused(api.ErrLong)
	case !double && !around:
		return refused(api.BadSame)
	}
	var asked []api.Root
	in := map[uint64]int{}
	for _, a := range []api.Indexed{s.One, s.Two} {
		straight := slices.Compact(slices.Sorted(slices.Values(a.Who)))
		if len(a.Who) == 0 || !slices.Equal(straight, a.Who) {
			return refused(api.BadList, asked...)
		}
		for _, i := range a.Who {
			if in[i]++; i >= uint64(len(x.Validators)) {
				return refused(api.BadWho, asked...)
			}
		}
		q := askedOfAttest(x, a)
		if asked = append(asked, q); slices.Contains(bad, q) {
			return refused(api.BadSig, asked...)
		}
	}
	var guilty []uint64
	for i := range x.Validators {
		if in[uint64(i)] == 2 && plainCan(x, uint64(i)) {
			guilty = append(guilty, uint64(i))
		}
	}
	if guilty == nil {
		return refused(api.BadSlashed, asked...)
	}
	return plainSlashAll(x, guilty, asked...)
}

// What is seen of states and slashings.

// sameState tells whether two right states are the same, nil and an empty list being so too.
func sameState(t *testing.T, a, b api.State) bool {
	t.Helper()
	one, err := state.EncState(a)
	two, err2 := state.EncState(b)
	if err != api.OK || err2 != api.OK {
		t.Fatalf("a state can't be written: errors %d, %d", err, err2)
	}
	return bytes.Equal(one, two)
}

// isZero tells whether a state is the zero one, its lists nil or empty.
func isZero(x api.State) bool {
	v := reflect.ValueOf(x)
	for i := range v.NumField() {
		f := v.Field(i)
		if f.Kind() == reflect.Slice && f.Len() > 0 || f.Kind() != reflect.Slice && !f.IsZero() {
			return false
		}
	}
	return true
}

// roomy tells a value, and of each list in it the room behind its end too.
func roomy(b []byte, v reflect.Value) []byte {
	switch v.Kind() {
	case reflect.Slice:
		v = v.Slice3(0, v.Cap(), v.Cap())
		for i := range v.Len() {
			b = roomy(append(b, ';'), v.Index(i))
		}
		return append(b, ']')
	case reflect.Struct:
		for i := range v.NumField() {
			b = roomy(append(b, ','), v.Field(i))
		}
		return b
	default:
		return fmt.Append(b, v.Interface())
	}
}

// whole of what a pointer points to, as text.
func whole(x any) string { return string(roomy(nil, reflect.ValueOf(x).Elem())) }

// spoil all that stands in the lists of what is pointed to, and in their room, as a caller may.
func spoil(x any) { spoilLists(reflect.ValueOf(x).Elem()) }

func spoilLists(v reflect.Value) {
	switch v.Kind() {
	case reflect.Slice:
		v = v.Slice3(0, v.Cap(), v.Cap())
		for i := range v.Len() {
			spoilLists(v.Index(i))
			change(v.Index(i))
		}
	case reflect.Struct, reflect.Array:
		for i := range parts(v) {
			spoilLists(part(v, i))
		}
	}
}

// change each number, bit and byte of a value; lists stay where they are.
func change(v reflect.Value) {
	switch v.Kind() {
	case reflect.Struct, reflect.Array:
		for i := range parts(v) {
			change(part(v, i))
		}
	case reflect.Bool:
		v.SetBool(!v.Bool())
	case reflect.Uint64, reflect.Uint8:
		v.SetUint(^v.Uint() & 0xff)
	}
}

// parts of a struct or an array: how many.
func parts(v reflect.Value) int {
	if v.Kind() == reflect.Struct {
		return v.NumField()
	}
	return v.Len()
}

func part(v reflect.Value, i int) reflect.Value {
	if v.Kind() == reflect.Struct {
		return v.Field(i)
	}
	return v.Index(i)
}

// What is wanted.

// wantAnswer: the error, the questions, and each part of the state.
func wantAnswer(t *testing.T, what string, got, want answer) {
	t.Helper()
	if !slices.Equal(got.asked, want.asked) {
		t.Errorf("%s, asked: %x; want %x", what, got.asked, want.asked)
	}
	if got.err != want.err {
		t.Errorf("%s: error %d; want %d", what, got.err, want.err)
		return
	}
	if want.err != api.OK {
		if !isZero(got.state) {
			t.Errorf("%s: beside the error %d the state isn't the zero one", what, want.err)
		}
		return
	}
	if len(got.state.Validators) != len(want.state.Validators) || len(got.state.Balances) != len(want.state.Balances) {
		t.Errorf("%s: %d validators, %d balances; want %d", what, len(got.state.Validators), len(got.state.Balances), len(want.state.Validators))
		return
	}
	if got.state.Slashings != want.state.Slashings {
		t.Errorf("%s: Slashings %d; want %d", what, got.state.Slashings, want.state.Slashings)
		return
	}
	for i, v := range want.state.Validators {
		if got.state.Validators[i] != v || got.state.Balances[i] != want.state.Balances[i] {
			t.Errorf("%s: validator %d: %v, balance %d; want %v, balance %d", what, i, got.state.Validators[i], got.state.Balances[i], v, want.state.Balances[i])
			return
		}
	}
	if !sameState(t, got.state, want.state) {
		t.Errorf("%s: something else changed", what)
	}
}

// wantLeave by the second reading, and hands on what was answered.
func wantLeave(t *testing.T, what string, x api.State, i uint64) api.State {
	t.Helper()
	mustRight(t, x)
	y := clone(x)
	plainLeave(&y, i)
	want := answer{state: y}
	if !state.Right(y) {
		want = refused(api.ErrOver)
	}
	got, err := slash.Leave(x, i)
	wantAnswer(t, "Leave, "+what, answer{got, nil, err}, want)
	return got
}

func wantNoLeave(t *testing.T, what string, x api.State, i uint64, want api.Errno) {
	t.Helper()
	got, err := slash.Leave(x, i)
	wantAnswer(t, "Leave, "+what, answer{got, nil, err}, refused(want))
}

// wantSlash by the second reading, and hands on what was answered.
func wantSlash(t *testing.T, what string, x api.State, i uint64) api.State {
	t.Helper()
	mustRight(t, x)
	got, err := slash.Slash(x, i)
	wantAnswer(t, "Slash, "+what, answer{got, nil, err}, plainSlashAll(x, []uint64{i}))
	return got
}

func wantNoSlash(t *testing.T, what string, x api.State, i uint64, want api.Errno) {
	t.Helper()
	got, err := slash.Slash(x, i)
	wantAnswer(t, "Slash, "+what, answer{got, nil, err}, refused(want))
}

// wantProposer: this validator is slashed, and both questions are asked.
func wantProposer(t *testing.T, what string, x api.State, s api.ProposerSlashing, bad []api.Root) api.State {
	t.Helper()
	mustRight(t, x)
	want := plainSlashAll(x, []uint64{s.One.Header.Proposer}, askedOfHeaders(x, s)...)
	if want.err != api.OK {
		t.Fatalf("Proposer, %s: the second reading tells the error %d", what, want.err)
	}
	got, asked, err := slash.Proposer(x, s, bad)
	wantAnswer(t, "Proposer, "+what, answer{got, asked, err}, want)
	return got
}

func wantNoProposer(t *testing.T, what string, x api.State, s api.ProposerSlashing, bad []api.Root, want api.Errno, asked ...api.Root) {
	t.Helper()
	got, questions, err := slash.Proposer(x, s, bad)
	wantAnswer(t, "Proposer, "+what, answer{got, questions, err}, refused(want, asked...))
}

// wantAttester: these validators are slashed, and both questions are asked.
func wantAttester(t *testing.T, what string, x api.State, s api.AttesterSlashing, bad []api.Root, guilty ...uint64) api.State {
	t.Helper()
	mustRight(t, x)
	want := plainSlashAll(x, guilty, askedOfAttests(x, s)...)
	if want.err != api.OK {
		t.Fatalf("Attester, %s: the second reading tells the error %d", what, want.err)
	}
	got, asked, err := slash.Attester(x, s, bad)
	wantAnswer(t, "Attester, "+what, answer{got, asked, err}, want)
	return got
}

func wantNoAttester(t *testing.T, what string, x api.State, s api.AttesterSlashing, bad []api.Root, want api.Errno, asked ...api.Root) {
	t.Helper()
	got, questions, err := slash.Attester(x, s, bad)
	wantAnswer(t, "Attester, "+what, answer{got, questions, err}, refused(want, asked...))
}

// exitsOf all validators.
func exitsOf(x api.State) []uint64 {
	var exits []uint64
	for _, v := range x.Validators {
		exits = append(exits, v.Exit)
	}
	return exits
}

// slashedOf a state: who is.
func slashedOf(x api.State) []uint64 {
	var who []uint64
	for i, v := range x.Validators {
		if v.Slashed {
			who = append(who, uint64(i))
		}
	}
	return who
}
