package state_test

import (
	"bytes"
	"crypto/sha256"
	"encoding/hex"
	"fmt"
	"slices"
	"strings"
	"testing"

	"pharos/api"
	"pharos/state"
)

// The chapter's examples, and answers that were reckoned apart from the program.

func text(t *testing.T, s string) []byte {
	t.Helper()
	b, err := hex.DecodeString(strings.ReplaceAll(s, " ", ""))
	if err != nil {
		t.Fatal(err)
	}
	return b
}

func TestExamples(t *testing.T) {
	want := make([]byte, 2101)
	for _, at := range []int{688, 764, 776, 780, 1104, 1108, 1233} {
		copy(want[at:], []byte{0x35, 8, 0, 0})
	}
	b, err := state.EncState(api.State{})
	if !bytes.Equal(b, want) || err != api.OK {
		t.Errorf("EncState of the zero state: %d bytes, %x, error %d", len(b), b, err)
	}
	if x, err := state.ReadState(want); !same(x, api.State{}) || err != api.OK {
		t.Errorf("ReadState of these: %v, error %d", x, err)
	}
	if !state.Right(api.State{}) {
		t.Errorf("the zero state isn't right")
	}
	if state.Right(api.State{Validators: make([]api.Validator, 1)}) {
		t.Errorf("with one validator and no balance it is right")
	}
}

// A state that is written out field by field, and its bytes.

func root(v byte) api.Root { return api.Root(bytes.Repeat([]byte{v}, 32)) }

func key(v byte) api.Key { return api.Key(bytes.Repeat([]byte{v}, 48)) }

func many(v byte, n int) string { return strings.Repeat(fmt.Sprintf("%02x", v), n) }

func little(v byte) string { return fmt.Sprintf("%02x00000000000000", v) }

func eightRoots(v byte) [8]api.Root {
	var all [8]api.Root
	for i := range all {
		all[i] = root(v + byte(i))
	}
	return all
}

func eightRootsText(v byte) string {
	s := ""
	for i := range byte(8) {
		s += many(v+i, 32)
	}
	return s
}

func eth1(v byte) api.Eth1 {
	return api.Eth1{Deposits: root(v), Count: uint64(v) + 1, Block: root(v + 2)}
}

func eth1String(v byte) string { return many(v, 32) + little(v+1) + many(v+2, 32) }

func validator(v byte, slashed bool) api.Validator {
	return api.Validator{
		Key: key(v), Credentials: root(v + 1), Effective: uint64(v) + 2, Slashed: slashed,
		Eligible: uint64(v) + 3, Activation: uint64(v) + 4, Exit: uint64(v) + 5, Withdrawable: uint64(v) + 6,
	}
}

func validatorString(v byte, slashed string) string {
	return many(v, 48) + many(v+1, 32) + little(v+2) + slashed + little(v+3) + little(v+4) + little(v+5) + little(v+6)
}

func committee(v byte) api.Committee {
	c := api.Committee{Sum: key(v + 8)}
	for i := range c.Keys {
		c.Keys[i] = key(v + byte(i))
	}
	return c
}

func committeeString(v byte) string {
	s := ""
	for i := range byte(9) {
		s += many(v+i, 48)
	}
	return s
}

func knownState() api.State {
	return api.State{
		Genesis: 1, GenesisRoot: root(2), Slot: 1 << 63,
		Fork:       api.Fork{Previous: api.Version{4, 5, 6, 7}, Current: api.Version{8, 9, 10, 11}, Epoch: 12},
		Header:     api.Header{Slot: 13, Proposer: 14, Parent: root(15), State: root(16), Body: root(17)},
		BlockRoots: eightRoots(20), StateRoots: eightRoots(30),
		History: []api.Root{root(40), root(41), root(42)},
		Eth1:    eth1(50), Votes: []api.Eth1{eth1(60), eth1(70)},
		Deposits:   80,
		Validators: []api.Validator{validator(90, true), validator(100, false)},
		Balances:   []uint64{258, 1<<64 - 1, 110},
		Mixes:      eightRoots(120),
		Slashings:  [8]uint64{130, 131, 132, 133, 134, 135, 136, 137},
		Previous:   []uint8{140, 141, 142, 143},
		Current:    []uint8{150, 0, 255, 151, 152},
		Bits:       [4]bool{true, false, true, true},
		OldJust:    api.Checkpoint{Epoch: 160, Root: root(161)},
		Just:       api.Checkpoint{Epoch: 162, Root: root(163)},
		Final:      api.Checkpoint{Epoch: 164, Root: root(165)},
		Scores:     []uint64{170},
		Sync:       committee(180), NextSync: committee(200),
	}
}

// knownText: the head has 2101 bytes; each offset is the one ahead of it and the length of the list there.
func knownText() string {
	return little(1) + many(2, 32) + "0000000000000080" +
		"04050607 08090a0b" + little(12) +
		little(13) + little(14) + many(15, 32) + many(16, 32) + many(17, 32) +
		eightRootsText(20) + eightRootsText(30) +
		"35080000" + // 2101
		eth1String(50) +
		"95080000" + // 2101 + 3 * 32 = 2197
		little(80) +
		"25090000" + // 2197 + 2 * 72 = 2341
		"170a0000" + // 2341 + 2 * 121 = 2583
		eightRootsText(120) +
		little(130) + little(131) + little(132) + little(133) + little(134) + little(135) + little(136) + little(137) +
		"2f0a0000" + // 2583 + 3 * 8 = 2607
		"330a0000" + // 2607 + 4 = 2611
		"0d" +
		little(160) + many(161, 32) + little(162) + many(163, 32) + little(164) + many(165, 32) +
		"380a0000" + // 2611 + 5 = 2616
		committeeString(180) + committeeString(200) +
		many(40, 32) + many(41, 32) + many(42, 32) +
		eth1String(60) + eth1String(70) +
		validatorString(90, "01") + validatorString(100, "00") +
		"0201000000000000 ffffffffffffffff" + little(110) +
		"8c8d8e8f" +
		"9600ff9798" +
		little(170)
}

func TestKnownBytes(t *testing.T) {
	want := text(t, knownText())
	if got, err := state.EncState(knownState()); !bytes.Equal(got, want) || err != api.OK {
		t.Errorf("EncState: %x, error %d; want %x", got, err, want)
	}
	if got, err := state.ReadState(want); !same(got, knownState()) || err != api.OK {
		t.Errorf("ReadState: %v, error %d; want %v", got, err, knownState())
	}
}

// TestKnownOfTheGreatest: the bytes of a state as great as it may be, by their hash, and its root.
func TestKnownOfTheGreatest(t *testing.T) {
	x := value(rising, full())
	b, err := state.EncState(x)
	got := fmt.Sprintf("%x", sha256.Sum256(b))
	if len(b) != 9144949 || got != "dca41f973ab4fe15dd4aa4431de52dcfa7a7a7646c002a798d148d8de1932eb6" || err != api.OK {
		t.Errorf("EncState: %d bytes with the hash %s, error %d", len(b), got, err)
	}
	root, err := state.RootState(x)
	if got := fmt.Sprintf("%x", root); got != "4869eb811827c5a764555b972b21e74bfbdfa7a7bea3fe5ddeb101bb87143c65" || err != api.OK {
		t.Errorf("RootState: %s, error %d", got, err)
	}
}

// TestKnownRoots: of states whose leaves have the bytes 1, 2, 3 and so on, or zeros.
func TestKnownRoots(t *testing.T) {
	for _, c := range []struct {
		s                 shape
		ofRising, ofZeros string
	}{
		{shape{0, 0, 0, 0, 0, 0, 0},
			"ee1224c45764357809851b7f1cb8b9cc12b229e5c3d4993dccece91577680f92", "fd4663a124ea8fe605c6ebfdf1995fe33f820afe062da454426be43371f92601"},
		{shape{1, 0, 0, 0, 0, 0, 0},
			"f8a87771ae9f506297b0c528f8b369a9b8ca0b21c58e6eecf866b543744de143", "22ced46a4eab9c6322f649cb3d0db25ce61fe6e98913a89f693a77fc25ccc0c8"},
		{shape{0, 1, 0, 0, 0, 0, 0},
			"64cf80186e3061daa4f9415484ec2513348ea64efaa02de84592e0f0753995b4", "49b96bb8cb37cad7d18f99b694bac6d6d1ea60ceaf936005bae4c9ff2a0ec8a8"},
		{shape{0, 0, 1, 0, 0, 0, 0},
			"acffbfbfe8b59e87d951719880ad11763825a35aa6d6c370546f1c1119cb3fa7", "351f11ce56fab731311d26eb486ffbe2dcaa78052c58f2bfb87136371dc6345c"},
		{shape{0, 0, 0, 1, 0, 0, 0},
			"1451b0472109e601cfa9edb590eae89bec41ab7717f83ba2cfd6a3b4ea235bf4", "2d53f690629776ca69d7c354dcfabe30b0628ab4466ea21158ddc33725cb160a"},
		{shape{0, 0, 0, 0, 1, 0, 0},
			"cebf6315cddf8d5bf5493360b9863c78133ef48a1d06b1a13081b9eb840c2836", "548668b0e59f156a81b096f76406a8ace11a45103d298af5d9d76ccdfe131e0f"},
		{shape{0, 0, 0, 0, 0, 1, 0},
			"41042317e323007ea094a6296837c8aecd37b339ac0128f4133515db34188222", "7f98d90ec00a796221f55a80bfd5f1b788d5d1846eb386c6ab3be75752bd5cb9"},
		{shape{0, 0, 0, 0, 0, 0, 1},
			"e92ca95c61eb23fe93c8fdd35855fcbe8261000f15f43ee5f6975455957f0087", "61cb38ca9d40ca723d38752786eabc6912c8db1d8c514c131b62562cd8336370"},
		{shape{1, 2, 3, 4, 5, 6, 7},
			"42e2585ef4312e44cf1802cfb366c482d78ef7539038e2bbad90f8822c6c2dc0", "516133004497a255dbca166954a773a8440db36c6445b2486c5ee887e2ed9cba"},
		{shape{7, 6, 5, 4, 3, 2, 1},
			"2f324a23bf4a94bd87f0951f686eadd75a04aeff03177cf10de2889e6e65d119", "b65af00473ebc5822b83f625b2adfc27b14bf71246268d5b5845ecff61571179"},
		{shape{3, 3, 3, 3, 3, 3, 3},
			"5b253747d8ac4b7609f1f3e9c6eeb9f297f10369c10b25281fef934203fc04cd", "9bfe421008e8ccdd15b7b8d368e0511ede95306a7821d092321a82c1de793f3a"},
		{shape{33, 8, 17, 17, 33, 65, 9},
			"ebc0f4696566fde4a39db46a01da49386c7aea134de88659d5b4c458f45913ca", "7c9663b67affefa7c453b8bb7867af6f0ebfacc4d79c849b4fc26eec13bb8de3"},
		{shape{1024, 8, 0, 0, 0, 0, 0},
			"ac63992a79ffe8d616fe2b5853825f3a3058ed945757fd80c4ac37dd8e655315", "9ed600a0b44ab6a2002f5ce403fa98930f7ffcb334afebd88cc58ef5f133f25a"},
		{shape{0, 0, 0, 65536, 65536, 65536, 65536},
			"d8e4743bf18ee75d7cedebaacbf1091ccdcc73aba79d6aa755443bfc92467a6d", "d505e24ed949cdf8186bfe6bce632841f5f1a902562a456cf79c34e30d297e26"},
		{shape{5, 8, 300, 300, 300, 300, 300},
			"48f3f0d4c5e0eab91c958462141d27ce3d6f7f419ede23ed33d8f73141ef1d15", "66a000c32eff9e07e932b1b8fcfbe061cf42bb1bbaeacbb3106d800fefd415dc"},
	} {
		if got, err := state.RootState(value(rising, c.s)); got != api.Root(text(t, c.ofRising)) || err != api.OK {
			t.Errorf("RootState of rising bytes in %v: %x, error %d; want %s", c.s, got, err, c.ofRising)
		}
		if got, err := state.RootState(zeroState(c.s)); got != api.Root(text(t, c.ofZeros)) || err != api.OK {
			t.Errorf("RootState of zeros in %v: %x, error %d; want %s", c.s, got, err, c.ofZeros)
		}
	}
}

// Wrong inputs, with the error of each written out.

func withOffset(b []byte, at, to int) []byte {
	b = bytes.Clone(b)
	copy(b[at:], four(nil, to))
	return b
}

func withByte(b []byte, at int, v byte) []byte {
	b = bytes.Clone(b)
	b[at] = v
	return b
}

// withList puts other bytes for one list of the known state.
func withList(i int, list []byte) []byte {
	lists := listTexts(knownState())
	lists[i] = list
	return layState(knownState(), lists)
}

func TestOffsets(t *testing.T) {
	b := stateText(knownState())
	end := len(b) // 2624
	for _, to := range []int{0, 1, 4, 688, 692, 2097, 2100, 2102, 2105, 2197, end, end + 1, 2101 << 8, 2101 + 1<<16, 1 << 31, 1<<32 - 1} {
		wantRefused(t, fmt.Sprint("the first offset ", to), withOffset(b, 688, to), api.ErrForm)
	}
	begins := []int{2101, 2197, 2341, 2583, 2607, 2611, 2616, end}
	for i := 1; i < listCount; i++ {
		for _, to := range []int{0, 1, 2100, begins[i-1] - 1, begins[i+1] + 1, end + 1, begins[i] + 1<<16, begins[i] << 16, 1 << 31, 1<<32 - 1} {
			wantRefused(t, fmt.Sprintf("the offset of %s is %d", listName(i), to), withOffset(b, offsetAt(i), to), api.ErrForm)
		}
	}
	for _, c := range []struct {
		i, to int
		want  api.Errno
		why   string
	}{
		{votes, 2196, api.ErrSize, "95 bytes of History"},
		{votes, 2198, api.ErrSize, "97 bytes of History"},
		{votes, 2101, api.ErrSize, "no History, 240 bytes of Votes"},
		{votes, 2341, api.ErrSize, "240 bytes of History, no Votes"},
		{validators, 2340, api.ErrSize, "143 bytes of Votes"},
		{validators, 2342, api.ErrSize, "145 bytes of Votes"},
		{validators, 2197 + 72, api.ErrSize, "one vote, 314 bytes of Validators"},
		{balances, 2582, api.ErrSize, "241 bytes of Validators"},
		{balances, 2584, api.ErrSize, "243 bytes of Validators"},
		{balances, 2341 + 121, api.ErrSize, "one validator, 145 bytes of Balances"},
		{previous, 2606, api.ErrSize, "23 bytes of Balances"},
		{previous, 2608, api.ErrSize, "25 bytes of Balances"},
		{scores, 2615, api.ErrSize, "nine bytes of Scores"},
		{scores, 2617, api.ErrSize, "seven bytes of Scores"},
	} {
		wantRefused(t, c.why, withOffset(b, offsetAt(c.i), c.to), c.want)
	}
	for _, c := range []struct{ i, to, previous, current, balances int }{
		{current, 2607, 0, 9, 3},
		{current, 2616, 9, 0, 3},
		{current, 2610, 3, 6, 3},
		{previous, 2591, 20, 5, 1},
	} {
		x, err := state.ReadState(withOffset(b, offsetAt(c.i), c.to))
		if len(x.Previous) != c.previous || len(x.Current) != c.current || len(x.Balances) != c.balances || err != api.OK {
			t.Errorf("ReadState, the offset of %s is %d: lists of %v, error %d", listName(c.i), c.to, lengths(x), err)
		}
	}
}

func TestLengths(t *testing.T) {
	b := stateText(knownState())
	wantRefused(t, "the head less a byte", b[:2100], api.ErrSize)
	wantRefused(t, "the head alone", b[:2101], api.ErrForm)
	wantRefused(t, "a byte too few", b[:len(b)-1], api.ErrSize)
	wantRefused(t, "a byte too many", append(bytes.Clone(b), 0), api.ErrSize)
	none := stateText(api.State{})
	wantRefused(t, "the zero state, a byte too few", none[:2100], api.ErrSize)
	wantRefused(t, "the zero state, a byte too many", append(bytes.Clone(none), 0), api.ErrSize)
	if x, err := state.ReadState(append(bytes.Clone(none), make([]byte, 8)...)); !slices.Equal(x.Scores, []uint64{0}) || err != api.OK {
		t.Errorf("ReadState of the zero state and eight bytes: scores %v, error %d", x.Scores, err)
	}
}

// TestLists: each list apart, with no whole number of elements, as many as may be, and more.
func TestLists(t *testing.T) {
	for i := range listCount {
		size, most := elementSize(i), mostElements(i)
		for _, n := range []int{0, 1, 2, most - 1, most} {
			x, err := state.ReadState(withList(i, make([]byte, n*size)))
			if got := lengths(x)[i]; got != n || err != api.OK {
				t.Errorf("ReadState, %s of %d: %d of them, error %d", listName(i), n, got, err)
			}
		}
		for _, n := range []int{most + 1, most + 2, most + 31, 2 * most} {
			wantRefused(t, fmt.Sprintf("%s of %d", listName(i), n), withList(i, make([]byte, n*size)), api.ErrLong)
		}
		if size == 1 {
			continue
		}
		for _, n := range []int{0, 1, 2, most - 1, most, most + 1} {
			for _, more := range []int{1, size / 2, size - 1} {
				wantRefused(t, fmt.Sprintf("%s of %d and %d bytes", listName(i), n, more), withList(i, make([]byte, n*size+more)), api.ErrSize)
			}
		}
	}
}

// TestSlashedFlag: neither 0 nor 1, in each of three validators.
func TestSlashedFlag(t *testing.T) {
	list := bytes.Repeat([]byte{7}, 3*121)
	for i := range 3 {
		list[i*121+slashedAt] = byte(i % 2)
	}
	for v := range 256 {
		for i := range 3 {
			b := withList(validators, withByte(list, i*121+slashedAt, byte(v)))
			what := fmt.Sprintf("the flag %d of the validator %d", v, i)
			if v > 1 {
				wantRefused(t, what, b, api.ErrForm)
			} else if x, err := state.ReadState(b); len(x.Validators) != 3 || x.Validators[i].Slashed != (v == 1) || err != api.OK {
				t.Errorf("ReadState of %s: %v, error %d", what, x.Validators, err)
			}
		}
	}
	last := make([]byte, 65536*121)
	last[65535*121+slashedAt] = 2
	wantRefused(t, "the flag 2 of the last validator that may be", withList(validators, last), api.ErrForm)
	wantRefused(t, "the flag 2 of one of too many", withList(validators, append(last, make([]byte, 121)...)), api.ErrLong)
	wantRefused(t, "the flag 2 of one of no whole number", withList(validators, append(bytes.Repeat([]byte{2}, 121), 0)), api.ErrSize)
}

// TestFourBits: a bit above the four says nothing.
func TestFourBits(t *testing.T) {
	b := stateText(knownState())
	for v := range 256 {
		changed := withByte(b, bitsAt, byte(v))
		if v > 15 {
			wantRefused(t, fmt.Sprintf("the bits %02x", v), changed, api.ErrForm)
			continue
		}
		x, err := state.ReadState(changed)
		for i, bit := range x.Bits {
			if bit != (v>>i&1 == 1) {
				t.Errorf("ReadState, the bits %02x: %v", v, x.Bits)
			}
		}
		again, errEnc := state.EncState(x)
		if !bytes.Equal(again, changed) || err != api.OK || errEnc != api.OK {
			t.Errorf("ReadState, the bits %02x: error %d; encoded again: error %d", v, err, errEnc)
		}
	}
}

// fault is what may be wrong with the bytes of one field, and its error.
type fault struct {
	field int // the fields that may be wrong, in their order
	name  string
	list  int
	bytes []byte // of the list, or none where the bits are wrong
	want  api.Errno
}

// faults of all the fields that may be wrong: the bits stand behind Current, ahead of Scores.
func faults() []fault {
	var all []fault
	field := 0
	for i := range listCount {
		size, most := elementSize(i), mostElements(i)
		if i == scores {
			all = append(all, fault{field, "Bits", -1, nil, api.ErrForm})
			field++
		}
		if size > 1 {
			all = append(all, fault{field, listName(i), i, make([]byte, size-1), api.ErrSize})
		}
		if i == validators {
			all = append(all, fault{field, listName(i), i, bytes.Repeat([]byte{2}, size), api.ErrForm})
		}
		all = append(all, fault{field, listName(i), i, make([]byte, size*(most+1)), api.ErrLong})
		field++
	}
	return all
}

// faulty bytes: those of the known state with these faults.
func faulty(all ...fault) []byte {
	x, lists := knownState(), listTexts(knownState())
	for _, f := range all {
		if f.list >= 0 {
			lists[f.list] = f.bytes
		}
	}
	b := layState(x, lists)
	for _, f := range all {
		if f.list < 0 {
			b[bitsAt] = 0x1d
		}
	}
	return b
}

// TestFirstErrorCounts: two errors at once, in two of the fields, or in the head and in a field.
func TestFirstErrorCounts(t *testing.T) {
	for _, first := range faults() {
		for _, second := range faults() {
			if second.field > first.field {
				what := fmt.Sprintf("%s (%d) and %s (%d)", first.name, first.want, second.name, second.want)
				wantRefused(t, what, faulty(first, second), first.want)
			}
		}
		b := faulty(first)
		what := fmt.Sprintf("%s (%d)", first.name, first.want)
		wantRefused(t, what, b, first.want)
		wantRefused(t, what+", the head too short", b[:2100], api.ErrSize)
		wantRefused(t, what+", the first offset 2102", withOffset(b, 688, 2102), api.ErrForm)
		wantRefused(t, what+", the last offset too great", withOffset(b, 1233, len(b)+1), api.ErrForm)
		wantRefused(t, what+", the offsets in disorder", withOffset(b, 1104, 2100), api.ErrForm)
	}
	wantRefused(t, "all at once", faulty(faults()...), api.ErrLong)
}

// TestSpareRoomIsNoLength: a list may have as much spare room as it likes.
func TestSpareRoomIsNoLength(t *testing.T) {
	x := zeroState(full())
	x.Votes = make([]api.Eth1, 8, 100)
	x.History = make([]api.Root, 1024, 5000)
	x.Previous = make([]uint8, 65536, 100000)
	x.Scores = make([]uint64, 65536, 100000)
	if b, err := state.EncState(x); !bytes.Equal(b, stateText(x)) || err != api.OK {
		t.Errorf("EncState: %d bytes, error %d", len(b), err)
	}
	if root, err := state.RootState(x); root != stateRoot(x) || err != api.OK {
		t.Errorf("RootState: %x, error %d", root, err)
	}
	if !state.Right(x) {
		t.Errorf("Right: false")
	}
}
