package block_test

import (
	"crypto/sha256"
	"encoding/binary"
	"fmt"
	"reflect"
	"slices"

	"pharos/api"
	"pharos/block"
)

// kind is one row of the chapter's table, with a second reading of its bytes, of what is refused, and of its root, by hand and with the library alone.
type kind[T any] struct {
	name   string
	enc    func(T) ([]byte, api.Errno)
	read   func([]byte) (T, api.Errno)
	root   func(T) (api.Root, api.Errno)
	body   func(*T) *api.Body
	bytes  func(T) []byte
	refuse func([]byte) api.Errno
	plain  func(T) api.Root
}

func bodies() kind[api.Body] {
	return kind[api.Body]{
		"Body", block.EncBody, block.ReadBody, block.RootBody,
		func(x *api.Body) *api.Body { return x },
		bodyBytes, refuseBody, bodyRoot,
	}
}

func blocks() kind[api.Block] {
	return kind[api.Block]{
		"Block", block.EncBlock, block.ReadBlock, block.RootBlock,
		func(x *api.Block) *api.Body { return &x.Body },
		blockBytes, refuseBlock, blockRoot,
	}
}

func signedBlocks() kind[api.SignedBlock] {
	return kind[api.SignedBlock]{
		"SignedBlock", block.EncSignedBlock, block.ReadSignedBlock, block.RootSignedBlock,
		func(x *api.SignedBlock) *api.Body { return &x.Block.Body },
		signedBlockBytes, refuseSignedBlock, signedBlockRoot,
	}
}

// leaf is what has no fields of its own, in a container or in anything inside of it.
type leaf struct {
	name string
	size int // in bytes
	v    reflect.Value
}

func (l leaf) isNumber() bool { return l.v.Kind() == reflect.Uint64 }

func (l leaf) isBit() bool { return l.v.Kind() == reflect.Bool }

// set the leaf to these bytes; a bit takes the lowest one of its byte.
func (l leaf) set(b []byte) {
	switch l.v.Kind() {
	case reflect.Uint64:
		l.v.SetUint(binary.LittleEndian.Uint64(b))
	case reflect.Bool:
		l.v.SetBool(b[0]&1 == 1)
	default:
		if reflect.Copy(l.v, reflect.ValueOf(b)) != l.size {
			panic(l.name)
		}
	}
}

// leaves of what a pointer points to, in the order of the fields.
func leaves(x any) []leaf { return leavesOf("", reflect.ValueOf(x).Elem()) }

func leavesOf(name string, v reflect.Value) []leaf {
	var all []leaf
	switch v.Kind() {
	case reflect.Uint64:
		return []leaf{{name, 8, v}}
	case reflect.Bool:
		return []leaf{{name, 1, v}}
	case reflect.Struct:
		for i := range v.NumField() {
			all = append(all, leavesOf(name+"."+v.Type().Field(i).Name, v.Field(i))...)
		}
	case reflect.Array, reflect.Slice:
		if v.Type().Elem().Kind() == reflect.Uint8 {
			return []leaf{{name, v.Len(), v}}
		}
		for i := range v.Len() {
			all = append(all, leavesOf(fmt.Sprintf("%s[%d]", name, i), v.Index(i))...)
		}
	default:
		panic(name)
	}
	return all
}

// lists are all the lists of what a pointer points to, those inside of others too.
func lists(x any) []reflect.Value { return listsOf(reflect.ValueOf(x).Elem()) }

func listsOf(v reflect.Value) []reflect.Value {
	var all []reflect.Value
	switch v.Kind() {
	case reflect.Struct:
		for i := range v.NumField() {
			all = append(all, listsOf(v.Field(i))...)
		}
	case reflect.Slice:
		all = append(all, v)
		for i := range v.Len() {
			all = append(all, listsOf(v.Index(i))...)
		}
	}
	return all
}

// Bytes by hand.

func eight(b []byte, n uint64) []byte { return binary.LittleEndian.AppendUint64(b, n) }

func four(b []byte, n int) []byte { return binary.LittleEndian.AppendUint32(b, uint32(n)) }

// attested is a head of 228 bytes: the offset of the list, the data and the signature.
func attested(d api.Data, s api.Sig) []byte {
	b := []byte{228, 0, 0, 0}
	b = eight(b, d.Slot)
	b = eight(b, d.Index)
	b = append(b, d.Block[:]...)
	b = eight(b, d.Source.Epoch)
	b = append(b, d.Source.Root[:]...)
	b = eight(b, d.Target.Epoch)
	b = append(b, d.Target.Root[:]...)
	return append(b, s[:]...)
}

func indexedBytes(x api.Indexed) []byte {
	b := attested(x.Data, x.Sig)
	for _, who := range x.Who {
		b = eight(b, who)
	}
	return b
}

// packed bits, without the one that tells the length.
func packed(l []bool) []byte {
	b := make([]byte, (len(l)+7)/8)
	for i, bit := range l {
		if bit {
			b[i/8] |= 1 << (i % 8)
		}
	}
	return b
}

func attestBytes(x api.Attest) []byte {
	return append(attested(x.Data, x.Sig), packed(append(slices.Clone(x.Bits), true))...)
}

func signedHeaderBytes(b []byte, x api.SignedHeader) []byte {
	b = eight(b, x.Header.Slot)
	b = eight(b, x.Header.Proposer)
	b = append(b, x.Header.Parent[:]...)
	b = append(b, x.Header.State[:]...)
	b = append(b, x.Header.Body[:]...)
	return append(b, x.Sig[:]...)
}

func attesterSlashingBytes(x api.AttesterSlashing) []byte {
	one, two := indexedBytes(x.One), indexedBytes(x.Two)
	b := four(nil, 8)
	b = four(b, 8+len(one))
	return slices.Concat(b, one, two)
}

func depositBytes(b []byte, x api.Deposit) []byte {
	for _, root := range x.Proof {
		b = append(b, root[:]...)
	}
	b = append(b, x.Data.Key[:]...)
	b = append(b, x.Data.Credentials[:]...)
	b = eight(b, x.Data.Amount)
	return append(b, x.Data.Sig[:]...)
}

func exitBytes(b []byte, x api.SignedExit) []byte {
	b = eight(b, x.Exit.Epoch)
	b = eight(b, x.Exit.Validator)
	return append(b, x.Sig[:]...)
}

// offsets of elements, and the elements behind them.
func manyBytes(elements ...[]byte) []byte {
	var b []byte
	at := 4 * len(elements)
	for _, e := range elements {
		b = four(b, at)
		at += len(e)
	}
	return append(b, slices.Concat(elements...)...)
}

// bodyLists are the bytes of a body's five lists.
func bodyLists(x api.Body) [5][]byte {
	var l [5][]byte
	for _, s := range x.ProposerSlashings {
		l[0] = signedHeaderBytes(signedHeaderBytes(l[0], s.One), s.Two)
	}
	var attesters, attests [][]byte
	for _, s := range x.AttesterSlashings {
		attesters = append(attesters, attesterSlashingBytes(s))
	}
	for _, a := range x.Attests {
		attests = append(attests, attestBytes(a))
	}
	l[1], l[2] = manyBytes(attesters...), manyBytes(attests...)
	for _, d := range x.Deposits {
		l[3] = depositBytes(l[3], d)
	}
	for _, e := range x.Exits {
		l[4] = exitBytes(l[4], e)
	}
	return l
}

// layBody lays a body of which these are the bytes of the lists; its head has 317 bytes.
func layBody(x api.Body, lists [5][]byte) []byte {
	b := slices.Clone(x.Randao[:])
	b = append(b, x.Eth1.Deposits[:]...)
	b = eight(b, x.Eth1.Count)
	b = append(b, x.Eth1.Block[:]...)
	b = append(b, x.Graffiti[:]...)
	at := 317
	for _, l := range lists {
		b = four(b, at)
		at += len(l)
	}
	b = append(b, packed(x.Sync.Bits[:])...)
	b = append(b, x.Sync.Sig[:]...)
	return append(b, slices.Concat(lists[:]...)...)
}

func bodyBytes(x api.Body) []byte { return layBody(x, bodyLists(x)) }

// layBlock puts a block's head of 84 bytes ahead of a body's bytes.
func layBlock(x api.Block, body []byte) []byte {
	b := eight(eight(nil, x.Slot), x.Proposer)
	b = append(b, x.Parent[:]...)
	b = append(b, x.State[:]...)
	return append(four(b, 84), body...)
}

func blockBytes(x api.Block) []byte { return layBlock(x, bodyBytes(x.Body)) }

// laySigned puts a signed block's head of 100 bytes ahead of a block's bytes.
func laySigned(s api.Sig, block []byte) []byte {
	return slices.Concat(four(nil, 100), s[:], block)
}

func signedBlockBytes(x api.SignedBlock) []byte { return laySigned(x.Sig, blockBytes(x.Block)) }

// What is refused, by hand.

func refuseHead(b []byte) api.Errno {
	switch {
	case len(b) < 228:
		return api.ErrSize
	case binary.LittleEndian.Uint32(b) != 228:
		return api.ErrForm
	}
	return api.OK
}

func refuseIndexed(b []byte) api.Errno {
	switch err := refuseHead(b); {
	case err != api.OK:
		return err
	case (len(b)-228)%8 != 0:
		return api.ErrSize
	case len(b) > 228+64*8:
		return api.ErrLong
	}
	return api.OK
}

func refuseAttest(b []byte) api.Errno {
	switch err := refuseHead(b); {
	case err != api.OK:
		return err
	case len(b) == 228:
		return api.ErrSize
	case b[len(b)-1] == 0:
		return api.ErrForm
	case len(b) > 228+9, len(b) == 228+9 && b[236] > 1:
		return api.ErrLong
	}
	return api.OK
}

func refuseAttesterSlashing(b []byte) api.Errno {
	if len(b) < 8 {
		return api.ErrSize
	}
	one, two := offset(b, 0), offset(b, 4)
	if one != 8 || two < 8 || two > len(b) {
		return api.ErrForm
	}
	if err := refuseIndexed(b[8:two]); err != api.OK {
		return err
	}
	return refuseIndexed(b[two:])
}

func offset(b []byte, at int) int { return int(binary.LittleEndian.Uint32(b[at:])) }

// refuseEach: elements of a size; those of a block are all told by it.
func refuseEach(b []byte, size, most int) api.Errno {
	switch {
	case len(b)%size != 0:
		return api.ErrSize
	case len(b) > size*most:
		return api.ErrLong
	}
	return api.OK
}

func refuseMany(b []byte, most int, refuse func([]byte) api.Errno) api.Errno {
	if len(b) == 0 {
		return api.OK
	}
	if len(b) < 4 {
		return api.ErrSize
	}
	first := offset(b, 0)
	if first == 0 || first%4 != 0 || first > len(b) {
		return api.ErrForm
	}
	if first > 4*most {
		return api.ErrLong
	}
	ends := []int{}
	for at := 4; at < first; at += 4 {
		ends = append(ends, offset(b, at))
	}
	ends = append(ends, len(b))
	begin := first
	for _, end := range ends {
		if end < begin || end > len(b) {
			return api.ErrForm
		}
		begin = end
	}
	begin = first
	for _, end := range ends {
		if err := refuse(b[begin:end]); err != api.OK {
			return err
		}
		begin = end
	}
	return api.OK
}

func refuseBody(b []byte) api.Errno {
	if len(b) < 317 {
		return api.ErrSize
	}
	if offset(b, 200) != 317 {
		return api.ErrForm
	}
	at := []int{317, offset(b, 204), offset(b, 208), offset(b, 212), offset(b, 216), len(b)}
	if !slices.IsSorted(at) {
		return api.ErrForm
	}
	for i, refuse := range []func([]byte) api.Errno{
		func(b []byte) api.Errno { return refuseEach(b, 416, 2) },
		func(b []byte) api.Errno { return refuseMany(b, 1, refuseAttesterSlashing) },
		func(b []byte) api.Errno { return refuseMany(b, 4, refuseAttest) },
		func(b []byte) api.Errno { return refuseEach(b, 408, 2) },
		func(b []byte) api.Errno { return refuseEach(b, 112, 2) },
	} {
		if err := refuse(b[at[i]:at[i+1]]); err != api.OK {
			return err
		}
	}
	return api.OK
}

func refuseBlock(b []byte) api.Errno {
	switch {
	case len(b) < 84:
		return api.ErrSize
	case offset(b, 80) != 84:
		return api.ErrForm
	}
	return refuseBody(b[84:])
}

func refuseSignedBlock(b []byte) api.Errno {
	switch {
	case len(b) < 100:
		return api.ErrSize
	case offset(b, 0) != 100:
		return api.ErrForm
	}
	return refuseBlock(b[100:])
}

// Roots by hand.

// two is the hash of two roots, by the library.
func two(a, b api.Root) api.Root { return sha256.Sum256(slices.Concat(a[:], b[:])) }

// chunk is a root of at most 32 bytes with zeros behind them.
func chunk(b []byte) api.Root {
	if len(b) > 32 {
		panic("a chunk of more than 32 bytes")
	}
	var c api.Root
	copy(c[:], b)
	return c
}

func numberChunk(n uint64) api.Root { return chunk(eight(nil, n)) }

// keyRoot: 48 bytes are two chunks, the second one half full.
func keyRoot(k api.Key) api.Root { return two(chunk(k[:32]), chunk(k[32:])) }

// sigRoot: 96 bytes are three chunks, and a zero one fills them up to four.
func sigRoot(s api.Sig) api.Root {
	return two(two(chunk(s[:32]), chunk(s[32:64])), two(chunk(s[64:]), api.Root{}))
}

// three fields are filled up to four.
func three(a, b, c api.Root) api.Root { return two(two(a, b), two(c, api.Root{})) }

// five fields are filled up to eight.
func five(a, b, c, d, e api.Root) api.Root {
	var none api.Root
	return two(two(two(a, b), two(c, d)), two(two(e, none), two(none, none)))
}

func checkpointRoot(x api.Checkpoint) api.Root { return two(numberChunk(x.Epoch), x.Root) }

func dataRoot(x api.Data) api.Root {
	return five(numberChunk(x.Slot), numberChunk(x.Index), x.Block, checkpointRoot(x.Source), checkpointRoot(x.Target))
}

// whoRoot: four numbers a chunk, sixteen chunks, however short the list is, and its length.
func whoRoot(l []uint64) api.Root {
	var row [16]api.Root
	for i, n := range l {
		binary.LittleEndian.PutUint64(row[i/4][i%4*8:], n)
	}
	for width := 8; width > 0; width /= 2 {
		for i := range width {
			row[i] = two(row[2*i], row[2*i+1])
		}
	}
	return two(row[0], numberChunk(uint64(len(l))))
}

// bitsRoot: 64 bits are at most one chunk, which is its own root, and the length.
func bitsRoot(l []bool) api.Root { return two(chunk(packed(l)), numberChunk(uint64(len(l)))) }

func indexedRoot(x api.Indexed) api.Root {
	return three(whoRoot(x.Who), dataRoot(x.Data), sigRoot(x.Sig))
}

func attesterSlashingRoot(x api.AttesterSlashing) api.Root {
	return two(indexedRoot(x.One), indexedRoot(x.Two))
}

func attestRoot(x api.Attest) api.Root {
	return three(bitsRoot(x.Bits), dataRoot(x.Data), sigRoot(x.Sig))
}

func signedHeaderRoot(x api.SignedHeader) api.Root {
	h := x.Header
	return two(five(numberChunk(h.Slot), numberChunk(h.Proposer), h.Parent, h.State, h.Body), sigRoot(x.Sig))
}

func proposerSlashingRoot(x api.ProposerSlashing) api.Root {
	return two(signedHeaderRoot(x.One), signedHeaderRoot(x.Two))
}

func depositRoot(x api.Deposit) api.Root {
	p, d := x.Proof, x.Data
	proof := two(two(two(p[0], p[1]), two(p[2], p[3])), two(two(p[4], p[5]), two(p[6], api.Root{})))
	return two(proof, two(two(keyRoot(d.Key), d.Credentials), two(numberChunk(d.Amount), sigRoot(d.Sig))))
}

func exitRoot(x api.SignedExit) api.Root {
	return two(two(numberChunk(x.Exit.Epoch), numberChunk(x.Exit.Validator)), sigRoot(x.Sig))
}

// Lists of at most one, two and four, filled up with zeros, and their lengths.

func upTo1[T any](l []T, root func(T) api.Root) api.Root {
	var r [1]api.Root
	for i, x := range l {
		r[i] = root(x)
	}
	return two(r[0], numberChunk(uint64(len(l))))
}

func upTo2[T any](l []T, root func(T) api.Root) api.Root {
	var r [2]api.Root
	for i, x := range l {
		r[i] = root(x)
	}
	return two(two(r[0], r[1]), numberChunk(uint64(len(l))))
}

func upTo4[T any](l []T, root func(T) api.Root) api.Root {
	var r [4]api.Root
	for i, x := range l {
		r[i] = root(x)
	}
	return two(two(two(r[0], r[1]), two(r[2], r[3])), numberChunk(uint64(len(l))))
}

// bodyRoot: nine fields are filled up to sixteen.
func bodyRoot(x api.Body) api.Root {
	var none api.Root
	eth1 := three(x.Eth1.Deposits, numberChunk(x.Eth1.Count), x.Eth1.Block)
	front := two(
		two(two(sigRoot(x.Randao), eth1), two(x.Graffiti, upTo2(x.ProposerSlashings, proposerSlashingRoot))),
		two(
			two(upTo1(x.AttesterSlashings, attesterSlashingRoot), upTo4(x.Attests, attestRoot)),
			two(upTo2(x.Deposits, depositRoot), upTo2(x.Exits, exitRoot)),
		),
	)
	sync := two(chunk(packed(x.Sync.Bits[:])), sigRoot(x.Sync.Sig))
	two0 := two(none, none)
	return two(front, two(two(two(sync, none), two0), two(two0, two0)))
}

func blockRoot(x api.Block) api.Root {
	return five(numberChunk(x.Slot), numberChunk(x.Proposer), x.Parent, x.State, bodyRoot(x.Body))
}

func signedBlockRoot(x api.SignedBlock) api.Root { return two(blockRoot(x.Block), sigRoot(x.Sig)) }
