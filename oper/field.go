package oper

import (
	"pharos/api"
	"pharos/merkle"
	"pharos/ssz"
	"pharos/word"
)

// How many bytes the fields have.
const (
	anySize          = 0 // what ssz takes for a part of any size
	numberSize       = 8
	rootSize         = 32
	sigSize          = 96
	dataSize         = 128
	signedHeaderSize = 208
	depositDataSize  = 184
	proofLength      = api.Depth + 1
	proofSize        = proofLength * rootSize
)

// How many chunks the greatest lists fill: one has room for four numbers, or for 256 bits.
const (
	whoChunks  = (api.MaxCommittee + 3) / 4
	bitsChunks = (api.MaxCommittee + 255) / 256
)

// attestedSizes of an Indexed and of an Attest, which differ in their list alone.
func attestedSizes() []int { return []int{anySize, dataSize, sigSize} }

func proposerSlashingSizes() []int { return []int{signedHeaderSize, signedHeaderSize} }

func attesterSlashingSizes() []int { return []int{anySize, anySize} }

func depositSizes() []int { return []int{proofSize, depositDataSize} }

func numbersBytes(numbers []uint64) []byte {
	b := make([]byte, 0, len(numbers)*numberSize)
	for _, n := range numbers {
		eight := word.Bytes(n)
		b = append(b, eight[:]...)
	}
	return b
}

// readNumbers of a list that may have so many; ErrSize, ErrLong.
func readNumbers(b []byte, most int) ([]uint64, api.Errno) {
	parts, err := ssz.Each(b, numberSize, most)
	if err != api.OK {
		return nil, err
	}
	numbers := make([]uint64, len(parts))
	for i, part := range parts {
		// Each part has a number's length.
		numbers[i], _ = word.Read(part)
	}
	return numbers, api.OK
}

func proofBytes(proof [proofLength]api.Root) []byte {
	b := make([]byte, 0, proofSize)
	for _, root := range proof {
		b = append(b, root[:]...)
	}
	return b
}

// readProof reads bytes that were cut as those of a proof.
func readProof(b []byte) [proofLength]api.Root {
	var proof [proofLength]api.Root
	for i := range proof {
		copy(proof[i][:], b[i*rootSize:])
	}
	return proof
}

// rootOf the roots of a container's fields, or of one thing several times. There are as many as the limit, so nothing is refused.
func rootOf(roots ...api.Root) api.Root {
	root, _ := merkle.Tree(roots, len(roots))
	return root
}

// bytesRoot is the root of what has just bytes.
func bytesRoot(b []byte) api.Root { return rootOf(merkle.Pack(b)...) }

// listRoot is the root of a list of this length with these bytes, which fit into the chunks of the greatest one, so that nothing is refused.
func listRoot(b []byte, chunks, length int) api.Root {
	root, _ := merkle.Tree(merkle.Pack(b), chunks)
	return merkle.Mix(root, uint64(length))
}

// proofRoot: each of a proof's hashes is 32 bytes, and so its own root.
func proofRoot(proof [proofLength]api.Root) api.Root { return rootOf(proof[:]...) }
