package block_test

import (
	"bytes"
	"crypto/sha256"
	"encoding/hex"
	"fmt"
	"slices"
	"strings"
	"testing"

	"pharos/api"
	"pharos/block"
)

// The chapter's examples, and answers that were reckoned apart from the program.

func text(t *testing.T, s string) []byte {
	t.Helper()
	b, err := hex.DecodeString(strings.ReplaceAll(s, " ", ""))
	if err != nil {
		t.Fatal(err)
	}
	return b
}

func TestExamples(t *testing.T) {
	b, err := block.EncBody(api.Body{})
	if len(b) != 317 || err != api.OK {
		t.Fatalf("EncBody of an empty one: %d bytes, error %d", len(b), err)
	}
	want := make([]byte, 317)
	for at := 200; at < 220; at += 4 {
		copy(want[at:], []byte{0x3d, 1, 0, 0})
	}
	if !bytes.Equal(b, want) {
		t.Errorf("EncBody of an empty one: %x", b)
	}
	if x, err := block.ReadBody(want); !alike(x, api.Body{}) || err != api.OK {
		t.Errorf("ReadBody of it: %v, error %d", x, err)
	}
	wantRefused(t, signedBlocks(), "99 bytes", make([]byte, 99), api.ErrSize)
	wantRefused(t, signedBlocks(), "100 bytes 0", make([]byte, 100), api.ErrForm)
}

// Containers that are written out field by field, and their bytes.

func root(v byte) api.Root { return api.Root(bytes.Repeat([]byte{v}, 32)) }

func key(v byte) api.Key { return api.Key(bytes.Repeat([]byte{v}, 48)) }

func sig(v byte) api.Sig { return api.Sig(bytes.Repeat([]byte{v}, 96)) }

func many(v byte, n int) string { return strings.Repeat(fmt.Sprintf("%02x", v), n) }

func small(v byte) string { return fmt.Sprintf("%02x00000000000000", v) }

func data(v byte) api.Data {
	return api.Data{
		Slot: uint64(v), Index: uint64(v) + 1, Block: root(v + 2),
		Source: api.Checkpoint{Epoch: uint64(v) + 3, Root: root(v + 4)},
		Target: api.Checkpoint{Epoch: uint64(v) + 5, Root: root(v + 6)},
	}
}

func dataText(v byte) string {
	return small(v) + small(v+1) + many(v+2, 32) + small(v+3) + many(v+4, 32) + small(v+5) + many(v+6, 32)
}

func header(v byte) api.SignedHeader {
	return api.SignedHeader{
		Header: api.Header{Slot: uint64(v), Proposer: uint64(v) + 1, Parent: root(v + 2), State: root(v + 3), Body: root(v + 4)},
		Sig:    sig(v + 5),
	}
}

func headerText(v byte) string {
	return small(v) + small(v+1) + many(v+2, 32) + many(v+3, 32) + many(v+4, 32) + many(v+5, 96)
}

func deposit(v byte) api.Deposit {
	d := api.Deposit{Data: api.DepositData{Key: key(v), Credentials: root(v + 1), Amount: uint64(v) + 2, Sig: sig(v + 3)}}
	for i := range d.Proof {
		d.Proof[i] = root(v + 4 + byte(i))
	}
	return d
}

func depositText(v byte) string {
	s := ""
	for i := range byte(7) {
		s += many(v+4+i, 32)
	}
	return s + many(v, 48) + many(v+1, 32) + small(v+2) + many(v+3, 96)
}

func exit(v byte) api.SignedExit {
	return api.SignedExit{Exit: api.Exit{Epoch: uint64(v), Validator: uint64(v) + 1}, Sig: sig(v + 2)}
}

func exitText(v byte) string { return small(v) + small(v+1) + many(v+2, 96) }

func wantBytes[T any](t *testing.T, k kind[T], x T, s string) {
	t.Helper()
	want := text(t, s)
	if got, err := k.enc(x); !bytes.Equal(got, want) || err != api.OK {
		t.Errorf("Enc%s: %x, error %d; want %x", k.name, got, err, want)
	}
	if got, err := k.read(want); !alike(got, x) || err != api.OK {
		t.Errorf("Read%s: %v, error %d; want %v", k.name, got, err, x)
	}
}

func knownBody() api.Body {
	return api.Body{
		Randao: sig(1), Eth1: api.Eth1{Deposits: root(2), Count: 3, Block: root(4)}, Graffiti: root(5),
		ProposerSlashings: []api.ProposerSlashing{{One: header(10), Two: header(20)}},
		AttesterSlashings: []api.AttesterSlashing{{
			One: api.Indexed{Who: []uint64{258, 1<<64 - 1}, Data: data(30), Sig: sig(37)},
			Two: api.Indexed{Data: data(40), Sig: sig(47)},
		}},
		Attests: []api.Attest{
			{Bits: []bool{true, false, true}, Data: data(50), Sig: sig(57)},
			{Bits: make([]bool, 8), Data: data(60), Sig: sig(67)},
			{Data: data(70), Sig: sig(77)},
		},
		Deposits: []api.Deposit{deposit(80), deposit(100)},
		Exits:    []api.SignedExit{exit(120), exit(130)},
		Sync:     api.SyncAggregate{Bits: [8]bool{true, true, false, false, false, false, false, true}, Sig: sig(7)},
	}
}

// knownBodyText: the head has 317 bytes; each offset is the one ahead of it and the length of the list there.
func knownBodyText() string {
	return many(1, 96) + many(2, 32) + small(3) + many(4, 32) + many(5, 32) +
		"3d010000" + // 317
		"dd020000" + // 317 + 416 = 733
		"c1040000" + // 733 + 4 + 8 + 244 + 228 = 1217
		"7d070000" + // 1217 + 12 + 229 + 230 + 229 = 1917
		"ad0a0000" + // 1917 + 2 * 408 = 2733
		"83" + many(7, 96) +
		headerText(10) + headerText(20) +
		"04000000" + "08000000 fc000000" +
		"e4000000" + dataText(30) + many(37, 96) + "0201000000000000 ffffffffffffffff" +
		"e4000000" + dataText(40) + many(47, 96) +
		"0c000000 f1000000 d7010000" +
		"e4000000" + dataText(50) + many(57, 96) + "0d" +
		"e4000000" + dataText(60) + many(67, 96) + "0001" +
		"e4000000" + dataText(70) + many(77, 96) + "01" +
		depositText(80) + depositText(100) +
		exitText(120) + exitText(130)
}

func TestKnownBytes(t *testing.T) {
	wantBytes(t, bodies(), knownBody(), knownBodyText())
	x := api.Block{Slot: 200, Proposer: 1 << 63, Parent: root(202), State: root(203), Body: knownBody()}
	blockText := small(200) + "0000000000000080" + many(202, 32) + many(203, 32) + "54000000" + knownBodyText()
	wantBytes(t, blocks(), x, blockText)
	wantBytes(t, signedBlocks(), api.SignedBlock{Block: x, Sig: sig(204)}, "64000000"+many(204, 96)+blockText)
	none := many(0, 200) + strings.Repeat("3d010000", 5) + many(0, 97)
	wantBytes(t, bodies(), api.Body{}, none)
	wantBytes(t, blocks(), api.Block{}, many(0, 80)+"54000000"+none)
	wantBytes(t, signedBlocks(), api.SignedBlock{}, "64000000"+many(0, 96)+many(0, 80)+"54000000"+none)
}

// TestKnownHashOfBytes: the bytes of a block as great as it may be, by their hash.
func TestKnownHashOfBytes(t *testing.T) {
	b, err := block.EncSignedBlock(signedBlocks().value(rising, full(64, 63, 9, 8, 7, 0)))
	got := fmt.Sprintf("%x", sha256.Sum256(b))
	if len(b) != 4791 || got != "b6fc33b14b7efcf543948223971ae23875a8cadeb8b5a39089f647d731a19204" || err != api.OK {
		t.Errorf("EncSignedBlock: %d bytes with the hash %s, error %d", len(b), got, err)
	}
}

// knownRoot holds the roots of a container of this shape, whose leaves have the bytes 1, 2, 3 and so on, or zeros.
func knownRoot[T any](t *testing.T, k kind[T], s shape, ofRising, ofZeros string) {
	t.Helper()
	if got, err := k.root(k.value(rising, s)); got != api.Root(text(t, ofRising)) || err != api.OK {
		t.Errorf("Root%s of rising bytes in %v: %x, error %d; want %s", k.name, s, got, err, ofRising)
	}
	if got, err := k.root(k.value(all(0), s)); got != api.Root(text(t, ofZeros)) || err != api.OK {
		t.Errorf("Root%s of zeros in %v: %x, error %d; want %s", k.name, s, got, err, ofZeros)
	}
}

func TestKnownRootsOfBody(t *testing.T) {
	k := bodies()
	knownRoot(t, k, shape{0, 0, 0, 0, 0, []int{0}},
		"c50439a41c3ef00041ce8e4d9f73d128cf1261fe96153c3261fd7d2ddeb8bf5c", "ba6620b63a9bf8ffda38702c11855ee15026cbb3886020368354b38e572f946b")
	knownRoot(t, k, shape{1, 0, 0, 0, 0, []int{0}},
		"77a000e0fbfdfef6e622b20f644c90332e6f5b85feddcc03371e68cb3e998f88", "62edce8009d2cf74aab4bcb2940587ac800f490cd5450ddca2cb3a19faead2e1")
	knownRoot(t, k, shape{2, 0, 0, 0, 0, []int{0}},
		"86e9bb7ec8168190366e8e2f53c767b2f67c04a2238f427906535b3d32a0f794", "88c4623a12da745efe8b846ed52c1e21304ded47c86ffd0b2d589d4c33dfd004")
	knownRoot(t, k, shape{0, 1, 0, 0, 0, []int{0}},
		"4e596919105b9451930b7c1ef592ea6f7a40b4477b22706568d0f82b10c8b8ce", "4d63ef8d7752bd45bc4b674238f283189323f4cbc96819d51a9be0946c20cc2a")
	knownRoot(t, k, shape{0, 1, 0, 0, 0, []int{1, 64}},
		"f96944c9a50e05a2eab07fb84e5b766b99b98016a28a0002766bcab7feed1690", "a99e3d0152857fcbe304f7274c327b8baa9f6261eda6d66086b4232d82d17029")
	knownRoot(t, k, shape{0, 0, 1, 0, 0, []int{0}},
		"966bd58793e7ccb38c705164778368ac84b2809eb9c94e77630c4b51c9ed0df6", "572c30abfc3a6ce98f6058ab890edbb07b8bd44086dd5378b96afb0a538e8b29")
	knownRoot(t, k, shape{0, 0, 3, 0, 0, []int{1, 8, 63}},
		"a0e0df30a6d0ea30ebe263d7f1b380aaac981973787c2bfacd0cb16a1f5e21b2", "decade0b75b35fe6d420450a5454f230de584d1e5f5b0a75b3934f45c292f5f0")
	knownRoot(t, k, shape{0, 0, 4, 0, 0, []int{64}},
		"c6fe77ccf1bca538290c0d774ef58b80e2fb387ef75d4b80b31b20e5f677e45f", "613b512ad6d6a8aebbdfa1d5829a5283c57a4b838e4e32e0435907efebb35171")
	knownRoot(t, k, shape{0, 0, 0, 1, 0, []int{0}},
		"3c26d027a412c6934c43c8ac9514cbe137819f78c8671aa321d61fe841b97be2", "2a4a2f66bea525bcc8c0db5710278474882fd62f1752536c0e08eda6215c1028")
	knownRoot(t, k, shape{0, 0, 0, 2, 0, []int{0}},
		"8191d47efa35b34bb5b28695bb606b5ee56616789f18820043af670d94aaa64f", "4f51e4cd63b82c906cb8a7a06f5bdd1933b1251a7dad373d7a58ed0e4f212ae3")
	knownRoot(t, k, shape{0, 0, 0, 0, 1, []int{0}},
		"022acc0ee90587c9b2f9e2d6db1ca33463bee731d760d13159553144766808d7", "9b798484d4ca054b0ddd8b0b89f11969779ee1bdd7cb8f4767e0fad74839efae")
	knownRoot(t, k, shape{0, 0, 0, 0, 2, []int{0}},
		"c2f48f228a2fd1695130824b2598e7edf38e533d95a3c1356d5020888f975e99", "93d94e8b8bda40a406b4f522778620207360a72bf50a641b3fa7cba2dc46c351")
	knownRoot(t, k, shape{1, 1, 2, 1, 1, []int{3, 5, 7}},
		"06651823507ecd6b67bb7209ff516753f2ed21c9729cd1030c9901fcc6cec5f5", "de9e60d50ff90fd390f21fe65cf3407ecabc8cfed06b60dd85c4187dd2ccca5f")
	knownRoot(t, k, shape{2, 1, 4, 2, 2, []int{64, 63, 9, 8, 7, 0}},
		"2ebf797576666e106849bbcab28972f103fa307848929918a05cc67bdafaf8a4", "521ca2796b03c06bfa38b73c3e10992024a339173ba54f00981e7fbb5882643c")
}

func TestKnownRootsOfBlock(t *testing.T) {
	k := blocks()
	knownRoot(t, k, shape{0, 0, 0, 0, 0, []int{0}},
		"83cf7b91bfc3bd08b0b8d77e1da2943fe326ded274fd96a22a517b91fefe4757", "243d34a5a5634cf9db116152d6950933a8e4c28060da599fdfc017032507bf59")
	knownRoot(t, k, shape{0, 0, 4, 0, 0, []int{64}},
		"359438943c456fc99712a5940d0428eb9bbb0b1fcbe39f9ff7724059116a7dbb", "d0a649bebe94f4a5e0c31456666b47df1aaccce49cfe3c4cde1d57d750405a0c")
	knownRoot(t, k, shape{1, 1, 2, 1, 1, []int{3, 5, 7}},
		"6382bc3dd2a7aed81c6955af116bb8bb9a4df9dd9d4506ce74fb31f6ac717d2e", "200ee5bdd7d543d6d1e8617794987686d2a7fd9d38494069c86c76af7c3bd46c")
	knownRoot(t, k, shape{2, 1, 4, 2, 2, []int{64, 63, 9, 8, 7, 0}},
		"5de83302991571e4454015f6da894f199760ef85f2af894238b286bb5c9a2e59", "34e27b8c7c1bb71410839145d9c1f3cde84721638a9e5171bc502568728d85aa")
}

func TestKnownRootsOfSignedBlock(t *testing.T) {
	k := signedBlocks()
	knownRoot(t, k, shape{0, 0, 0, 0, 0, []int{0}},
		"cc19a294fb7b1d636985dd31d9e0aa80a837b545e1776820add7b79915583d36", "3ab2e38ed4a243bfd355c090f286af8064dba814756061214b2f50c27c10e5cb")
	knownRoot(t, k, shape{0, 1, 0, 0, 0, []int{1, 64}},
		"ac51d834d88c2f080a93770d52d5cabfcdcfc7ce2aedeb18782231e16f0b64ac", "dc63239cb9fce028b9d782e7f2e81a808628c41b6898cf029019b7c19ef535a6")
	knownRoot(t, k, shape{1, 1, 2, 1, 1, []int{3, 5, 7}},
		"60be51e601db4d83ccfa12f300b7919f3273df97b635e9bcecfc20e25e731ea2", "dc23cfe990c5b71b222d62df0fe13349e0c21bd0f3aa46d1fd8305fdab32c7b6")
	knownRoot(t, k, shape{2, 1, 4, 2, 2, []int{64, 63, 9, 8, 7, 0}},
		"c90bdb0a31b1fa6584d2939b8513cff9bdcc69d306fb3425d3f8f6a3a7304b1a", "c9226cc1d11cb3feae723f57cd5a6f53bd7f920c0bd62c160b90d8b9fe8b8090")
}

// Wrong inputs, with the error of each written out.

// The places of a body's lists, and their names.
const (
	proposers = iota
	attesters
	attests
	deposits
	exits
)

func listName(i int) string {
	return []string{"ProposerSlashings", "AttesterSlashings", "Attests", "Deposits", "Exits"}[i]
}

// refusedInAll: a body's bytes are refused, and so is a block with them, for the same.
func refusedInAll(t *testing.T, what string, body []byte, want api.Errno) {
	t.Helper()
	wantRefused(t, bodies(), what, body, want)
	inner := layBlock(api.Block{Slot: 1, Proposer: 2, Parent: root(3), State: root(4)}, body)
	wantRefused(t, blocks(), what, inner, want)
	wantRefused(t, signedBlocks(), what, laySigned(sig(5), inner), want)
}

// withList puts other bytes for one list of the known body.
func withList(i int, list []byte) []byte {
	lists := bodyLists(knownBody())
	lists[i] = list
	return layBody(knownBody(), lists)
}

func withOffset(b []byte, at, to int) []byte {
	b = bytes.Clone(b)
	copy(b[at:], four(nil, to))
	return b
}

func TestOffsetsOfBody(t *testing.T) {
	b := bodyBytes(knownBody())
	end := len(b) // 2957
	for _, to := range []int{0, 1, 4, 200, 220, 313, 316, 318, 321, 733, end, end + 1, 317 << 8, 317 + 1<<16, 1 << 31, 1<<32 - 1} {
		refusedInAll(t, fmt.Sprint("the first offset ", to), withOffset(b, 200, to), api.ErrForm)
	}
	begins := []int{317, 733, 1217, 1917, 2733, end}
	for i := 1; i < 5; i++ {
		at := 200 + 4*i
		for _, to := range []int{0, 1, 316, begins[i-1] - 1, begins[i+1] + 1, end + 1, begins[i] + 1<<16, begins[i] << 16, 1 << 31, 1<<32 - 1} {
			refusedInAll(t, fmt.Sprintf("the offset %d is %d", i, to), withOffset(b, at, to), api.ErrForm)
		}
	}
	for _, c := range []struct {
		i, to int
		want  api.Errno
		why   string
	}{
		{1, 732, api.ErrSize, "415 bytes of proposer slashings"},
		{1, 734, api.ErrSize, "417 bytes of proposer slashings"},
		{1, 317, api.ErrForm, "none; an attester slashing's offset is a header's slot"},
		{1, 1217, api.ErrSize, "900 bytes of proposer slashings, none of attester slashings"},
		{2, 733, api.ErrForm, "none; the first attestation's offset is 4"},
		{2, 1216, api.ErrSize, "Two of the attester slashing is too short"},
		{2, 1218, api.ErrSize, "Two of the attester slashing has a byte of a list"},
		{2, 1225, api.ErrForm, "Two of the attester slashing has a number; the attestations begin with 471"},
		{3, 1217, api.ErrSize, "no attestations, 1516 bytes of deposits"},
		{3, 1916, api.ErrSize, "the last attestation has no bits"},
		{3, 1918, api.ErrSize, "the last attestation has a byte more, 815 bytes of deposits"},
		{4, 2732, api.ErrSize, "815 bytes of deposits"},
		{4, 2734, api.ErrSize, "817 bytes of deposits"},
		{4, 1917 + 408, api.ErrSize, "one deposit, 632 bytes of exits"},
		{4, 2733 + 112, api.ErrSize, "928 bytes of deposits"},
	} {
		refusedInAll(t, c.why, withOffset(b, 200+4*c.i, c.to), c.want)
	}
}

func TestOffsetOfBlock(t *testing.T) {
	b := layBlock(api.Block{}, bodyBytes(knownBody()))
	for _, to := range []int{0, 1, 80, 83, 85, 88, 100, 317, len(b), len(b) + 1, 84 << 8, 84 << 24, 84 + 1<<16, 1<<32 - 1} {
		wrong := withOffset(b, 80, to)
		wantRefused(t, blocks(), fmt.Sprint("the offset ", to), wrong, api.ErrForm)
		wantRefused(t, signedBlocks(), fmt.Sprint("the block's offset ", to), laySigned(sig(1), wrong), api.ErrForm)
	}
}

func TestOffsetOfSignedBlock(t *testing.T) {
	b := laySigned(sig(1), layBlock(api.Block{}, bodyBytes(knownBody())))
	for _, to := range []int{0, 1, 4, 84, 96, 99, 101, 104, 317, len(b), len(b) + 1, 100 << 8, 100 << 24, 100 + 1<<16, 1<<32 - 1} {
		wantRefused(t, signedBlocks(), fmt.Sprint("the offset ", to), withOffset(b, 0, to), api.ErrForm)
	}
}

// TestShortInside: a container whose head is whole, but not that of what it holds.
func TestShortInside(t *testing.T) {
	for _, length := range []int{0, 1, 200, 316} {
		body := bodyBytes(api.Body{})[:length]
		refusedInAll(t, fmt.Sprintf("%d bytes of a body", length), body, api.ErrSize)
	}
	for _, length := range []int{0, 1, 83} {
		wantRefused(t, signedBlocks(), fmt.Sprintf("%d bytes of a block", length), laySigned(sig(1), blockBytes(api.Block{})[:length]), api.ErrSize)
	}
}

// TestListsOfOneSize: their lengths.
func TestListsOfOneSize(t *testing.T) {
	for i, size := range map[int]int{proposers: 416, deposits: 408, exits: 112} {
		for _, length := range []int{1, 4, size - 1, size + 1, 2*size - 1, 2*size + 1, 3*size - 1, 3*size + 1, 100*size + 1} {
			refusedInAll(t, fmt.Sprintf("%d bytes of %s", length, listName(i)), withList(i, make([]byte, length)), api.ErrSize)
		}
		for _, n := range []int{3, 4, 5, 8, 100} {
			refusedInAll(t, fmt.Sprintf("%d of %s", n, listName(i)), withList(i, make([]byte, n*size)), api.ErrLong)
		}
		for n := range 3 {
			x, err := block.ReadBody(withList(i, make([]byte, n*size)))
			got := map[int]int{proposers: len(x.ProposerSlashings), deposits: len(x.Deposits), exits: len(x.Exits)}[i]
			if got != n || err != api.OK {
				t.Errorf("ReadBody of %d of %s: %d, error %d", n, listName(i), got, err)
			}
		}
	}
}

func zeroIndexed() []byte { return indexedBytes(api.Indexed{}) }

func longIndexed() []byte { return indexedBytes(api.Indexed{Who: make([]uint64, 65)}) }

// slashingOf lays the two parts of an attester slashing.
func slashingOf(one, two []byte) []byte {
	return slices.Concat(four(nil, 8), four(nil, 8+len(one)), one, two)
}

func TestListOfAttesterSlashings(t *testing.T) {
	right := slashingOf(zeroIndexed(), zeroIndexed())
	if x, err := block.ReadBody(withList(attesters, manyBytes(right))); len(x.AttesterSlashings) != 1 || err != api.OK {
		t.Errorf("ReadBody of one attester slashing: %v, error %d", x.AttesterSlashings, err)
	}
	if x, err := block.ReadBody(withList(attesters, nil)); len(x.AttesterSlashings) != 0 || err != api.OK {
		t.Errorf("ReadBody of no attester slashing: %v, error %d", x.AttesterSlashings, err)
	}
	list := manyBytes(right)
	for what, c := range map[string]struct {
		list []byte
		want api.Errno
	}{
		"one byte":                        {[]byte{4}, api.ErrSize},
		"three bytes":                     {[]byte{4, 0, 0}, api.ErrSize},
		"an offset of 0":                  {make([]byte, 4), api.ErrForm},
		"an offset of 0 ahead of more":    {withOffset(list, 0, 0), api.ErrForm},
		"an offset of 1":                  {withOffset(list, 0, 1), api.ErrForm},
		"an offset of 3":                  {withOffset(list, 0, 3), api.ErrForm},
		"an offset of 5":                  {withOffset(list, 0, 5), api.ErrForm},
		"an offset of 6":                  {withOffset(list, 0, 6), api.ErrForm},
		"an offset of 8":                  {withOffset(list, 0, 8), api.ErrLong},
		"an offset of 12":                 {withOffset(list, 0, 12), api.ErrLong},
		"an offset of all":                {withOffset(list, 0, len(list)), api.ErrLong},
		"an offset above all":             {withOffset(list, 0, len(list)+4), api.ErrForm},
		"a great offset":                  {withOffset(list, 0, 1<<32-4), api.ErrForm},
		"an offset of 8 and no more":      {four(nil, 8), api.ErrForm},
		"an empty element":                {four(nil, 4), api.ErrSize},
		"two elements":                    {manyBytes(right, right), api.ErrLong},
		"two empty elements":              {manyBytes(nil, nil), api.ErrLong},
		"two elements out of order":       {withOffset(manyBytes(right, right), 4, 4), api.ErrLong},
		"five elements":                   {manyBytes(right, right, right, right, right), api.ErrLong},
		"a byte too few":                  {list[:len(list)-1], api.ErrSize},
		"a byte too many":                 {append(bytes.Clone(list), 0), api.ErrSize},
		"no offset":                       {right, api.ErrLong},
		"an element of seven bytes":       {manyBytes(make([]byte, 7)), api.ErrSize},
		"an element of eight zeros":       {manyBytes(make([]byte, 8)), api.ErrForm},
		"an element, offsets in disorder": {manyBytes(withOffset(right, 4, 7)), api.ErrForm},
		"an element, an offset too great": {manyBytes(withOffset(right, 4, 1000)), api.ErrForm},
		"65 in One":                       {manyBytes(slashingOf(longIndexed(), zeroIndexed())), api.ErrLong},
		"65 in Two":                       {manyBytes(slashingOf(zeroIndexed(), longIndexed())), api.ErrLong},
		"a wrong offset in One":           {manyBytes(slashingOf(withOffset(zeroIndexed(), 0, 227), zeroIndexed())), api.ErrForm},
		"a wrong offset in Two":           {manyBytes(slashingOf(zeroIndexed(), withOffset(zeroIndexed(), 0, 229))), api.ErrForm},
		"65 in One, a short Two":          {manyBytes(slashingOf(longIndexed(), zeroIndexed()[1:])), api.ErrLong},
		"a short One, 65 in Two":          {manyBytes(slashingOf(zeroIndexed()[1:], longIndexed())), api.ErrSize},
	} {
		refusedInAll(t, "attester slashings: "+what, withList(attesters, c.list), c.want)
	}
}

func TestListOfAttests(t *testing.T) {
	right := attestBytes(api.Attest{Bits: make([]bool, 3)})
	long := attestBytes(api.Attest{Bits: make([]bool, 65)})
	short := right[:228]
	formed := append(bytes.Clone(short), 0)
	for n := range 5 {
		list := slices.Repeat([][]byte{right}, n)
		if x, err := block.ReadBody(withList(attests, manyBytes(list...))); len(x.Attests) != n || err != api.OK {
			t.Errorf("ReadBody of %d attestations: %v, error %d", n, x.Attests, err)
		}
	}
	list := manyBytes(right, right, right, right)
	type wrong struct {
		list []byte
		want api.Errno
	}
	wrongs := map[string]wrong{
		"one byte":                        {[]byte{4}, api.ErrSize},
		"three bytes":                     {[]byte{16, 0, 0}, api.ErrSize},
		"an offset of 0":                  {withOffset(list, 0, 0), api.ErrForm},
		"an offset of 15":                 {withOffset(list, 0, 15), api.ErrForm},
		"an offset of 17":                 {withOffset(list, 0, 17), api.ErrForm},
		"an offset of 18":                 {withOffset(list, 0, 18), api.ErrForm},
		"an offset of 20":                 {withOffset(list, 0, 20), api.ErrLong},
		"an offset of all":                {withOffset(list, 0, len(list)), api.ErrLong},
		"an offset above all":             {withOffset(list, 0, len(list)+4), api.ErrForm},
		"an offset of 20, disorder":       {withOffset(withOffset(list, 0, 20), 4, 0), api.ErrLong},
		"an offset of 12":                 {withOffset(list, 0, 12), api.ErrForm}, // the first one begins with an offset
		"an offset of 4":                  {withOffset(list, 0, 4), api.ErrForm},
		"five":                            {manyBytes(right, right, right, right, right), api.ErrLong},
		"five empty ones":                 {manyBytes(nil, nil, nil, nil, nil), api.ErrLong},
		"a hundred":                       {manyBytes(slices.Repeat([][]byte{right}, 100)...), api.ErrLong},
		"an empty one":                    {manyBytes(nil), api.ErrSize},
		"an empty one behind a right one": {manyBytes(right, nil), api.ErrSize},
		"the second below the first":      {withOffset(list, 4, 15), api.ErrForm},
		"the third below the second":      {withOffset(list, 8, 16+228), api.ErrForm},
		"the last above all":              {withOffset(list, 12, len(list)+1), api.ErrForm},
		"the last at the end":             {withOffset(list, 12, len(list)), api.ErrLong}, // the third one's bits go on
		"the last at 2^32-1":              {withOffset(list, 12, 1<<32-1), api.ErrForm},
		"a byte too few":                  {list[:len(list)-1], api.ErrSize},
		"a zero too many":                 {append(bytes.Clone(list), 0), api.ErrForm},
		"no offset":                       {right, api.ErrLong},
	}
	for name, e := range map[string]wrong{"short": {short, api.ErrSize}, "without the last bit": {formed, api.ErrForm}, "too long": {long, api.ErrLong}} {
		for at := range 4 {
			parts := [][]byte{right, right, right, right}
			parts[at] = e.list
			wrongs[fmt.Sprintf("the one at %d is %s", at, name)] = wrong{manyBytes(parts...), e.want}
		}
		wrongs["five, the first "+name] = wrong{manyBytes(e.list, right, right, right, right), api.ErrLong}
		wrongs["a short one, then one "+name] = wrong{manyBytes(right, short, e.list), api.ErrSize}
		wrongs["one without the last bit, then one "+name] = wrong{manyBytes(formed, right, e.list), api.ErrForm}
		wrongs["one too long, then one "+name] = wrong{manyBytes(right, right, long, e.list), api.ErrLong}
		disorder := manyBytes(e.list, right, right)
		wrongs["disorder behind one "+name] = wrong{withOffset(disorder, 8, 0), api.ErrForm}
	}
	for what, c := range wrongs {
		refusedInAll(t, "attestations: "+what, withList(attests, c.list), c.want)
	}
}

// TestSyncBits: any byte is eight bits.
func TestSyncBits(t *testing.T) {
	b := bodyBytes(knownBody())
	for v := range 256 {
		b[220] = byte(v)
		x, err := block.ReadBody(b)
		for i, bit := range x.Sync.Bits {
			if bit != (v>>i&1 == 1) {
				t.Errorf("ReadBody, the sync bits %02x: %v", v, x.Sync.Bits)
			}
		}
		again, errEnc := block.EncBody(x)
		if !bytes.Equal(again, b) || err != api.OK || errEnc != api.OK {
			t.Errorf("ReadBody, the sync bits %02x: error %d; encoded again: error %d", v, err, errEnc)
		}
	}
}

// TestFirstErrorCounts: two errors at once, in two of the lists, or in the head and in a list.
func TestFirstErrorCounts(t *testing.T) {
	type wrong struct {
		list []byte
		want api.Errno
	}
	wrongs := [5][]wrong{
		proposers: {{make([]byte, 415), api.ErrSize}, {make([]byte, 3*416), api.ErrLong}},
		attesters: {{make([]byte, 3), api.ErrSize}, {make([]byte, 4), api.ErrForm}, {manyBytes(nil, nil), api.ErrLong},
			{manyBytes(slashingOf(longIndexed(), zeroIndexed())), api.ErrLong}},
		attests: {{make([]byte, 2), api.ErrSize}, {make([]byte, 8), api.ErrForm}, {manyBytes(nil, nil, nil, nil, nil), api.ErrLong},
			{manyBytes(attestBytes(api.Attest{Bits: make([]bool, 65)})), api.ErrLong}},
		deposits: {{make([]byte, 407), api.ErrSize}, {make([]byte, 3*408), api.ErrLong}},
		exits:    {{make([]byte, 111), api.ErrSize}, {make([]byte, 3*112), api.ErrLong}},
	}
	for i := range wrongs {
		for _, first := range wrongs[i] {
			for j := i + 1; j < 5; j++ {
				for _, second := range wrongs[j] {
					lists := bodyLists(knownBody())
					lists[i], lists[j] = first.list, second.list
					b := layBody(knownBody(), lists)
					refusedInAll(t, fmt.Sprintf("%s (%d) and %s (%d)", listName(i), first.want, listName(j), second.want), b, first.want)
				}
			}
			b := withList(i, first.list)
			what := fmt.Sprintf("%s (%d)", listName(i), first.want)
			refusedInAll(t, what, b, first.want)
			refusedInAll(t, what+", the head too short", b[:316], api.ErrSize)
			refusedInAll(t, what+", the first offset 318", withOffset(b, 200, 318), api.ErrForm)
			refusedInAll(t, what+", the last offset too great", withOffset(b, 216, len(b)+1), api.ErrForm)
			refusedInAll(t, what+", the offsets in disorder", withOffset(b, 208, 316), api.ErrForm)
			wantRefused(t, blocks(), what+", the block's offset 85", withOffset(layBlock(api.Block{}, b), 80, 85), api.ErrForm)
			signed := laySigned(sig(1), withOffset(layBlock(api.Block{}, b), 80, 85))
			wantRefused(t, signedBlocks(), what+", the block's offset 85", signed, api.ErrForm)
			wantRefused(t, signedBlocks(), what+", the offset 99", withOffset(laySigned(sig(1), layBlock(api.Block{}, b)), 0, 99), api.ErrForm)
		}
	}
}

// TestSpareRoomIsNoLength: a list may have as much spare room as it likes.
func TestSpareRoomIsNoLength(t *testing.T) {
	x := api.Body{
		ProposerSlashings: make([]api.ProposerSlashing, 2, 100),
		AttesterSlashings: make([]api.AttesterSlashing, 1, 100),
		Attests:           make([]api.Attest, 4, 100),
		Deposits:          make([]api.Deposit, 2, 100),
		Exits:             make([]api.SignedExit, 2, 100),
	}
	if b, err := block.EncBody(x); !bytes.Equal(b, bodyBytes(x)) || err != api.OK {
		t.Errorf("EncBody: %d bytes, error %d", len(b), err)
	}
	if root, err := block.RootBody(x); root != bodyRoot(x) || err != api.OK {
		t.Errorf("RootBody: %x, error %d", root, err)
	}
}

// TestHeaderOfBlock: a block has the root of the header that tells its body's root.
func TestHeaderOfBlock(t *testing.T) {
	x := api.Block{Slot: 1, Proposer: 2, Parent: root(3), State: root(4), Body: knownBody()}
	body, _ := block.RootBody(x.Body)
	want := five(numberChunk(1), numberChunk(2), root(3), root(4), body)
	if got, err := block.RootBlock(x); got != want || err != api.OK {
		t.Errorf("RootBlock: %x, error %d; want %x", got, err, want)
	}
}
