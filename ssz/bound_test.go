package ssz

import (
	"testing"

	"pharos/api"
)

// TestTotalLengthAtItsBound: here, since laid bytes of the greatest length would take four gigabytes.
func TestTotalLengthAtItsBound(t *testing.T) {
	for _, c := range []struct {
		name  string
		head  uint64
		parts [][]byte
		total uint64
		err   api.Errno
	}{
		{"no parts", 7, nil, 7, api.OK},
		{"one byte less than 2^32", 1<<32 - 4, [][]byte{{1}, {2, 3}}, 1<<32 - 1, api.OK},
		{"2^32 bytes", 1<<32 - 4, [][]byte{{1, 2}, {3, 4}}, 0, api.ErrArg},
		{"one byte more", 1<<32 - 4, [][]byte{{1, 2}, {3, 4, 5}}, 0, api.ErrArg},
		{"a head of 2^32 bytes", 1 << 32, [][]byte{{}}, 0, api.ErrArg},
		{"a head of 2^32 bytes less one", 1<<32 - 1, [][]byte{{}}, 1<<32 - 1, api.OK},
	} {
		total, err := totalLength(c.head, c.parts)
		if total != c.total || err != c.err {
			t.Errorf("%s: %d, error %d; want %d, error %d", c.name, total, err, c.total, c.err)
		}
	}
}
