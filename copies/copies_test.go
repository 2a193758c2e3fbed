package copies_test

import (
	"reflect"
	"slices"
	"testing"

	"pharos/api"
	"pharos/copies"
)

// room for so many, and some spare room, so that what writes there is seen.
func room[T any](l ...T) []T { return append(make([]T, 0, len(l)+3), l...) }

func someState() api.State {
	return api.State{
		Slot: 7, GenesisRoot: api.Root{1}, BlockRoots: [8]api.Root{3: {4}}, Slashings: [8]uint64{5: 6}, Bits: [4]bool{true},
		History: room(api.Root{1}, api.Root{2}), Votes: room(api.Eth1{Count: 3}),
		Validators: room(api.Validator{Effective: 4}, api.Validator{Slashed: true}), Balances: room[uint64](5, 6),
		Previous: room[uint8](7, 8), Current: room[uint8](9, 10), Scores: room[uint64](11, 12),
	}
}

func TestStateIsTheSame(t *testing.T) {
	for _, x := range []api.State{{}, someState()} {
		if y := copies.State(x); !reflect.DeepEqual(x, y) || !reflect.DeepEqual(x, someState()) && x.Slot == 7 {
			t.Errorf("%v was copied to %v", x, y)
		}
	}
}

// TestStateSharesNothing: neither what stands in a list, nor the room behind its end. All lists that a state has are gone through, also such as come later.
func TestStateSharesNothing(t *testing.T) {
	lists := 0
	for i := range reflect.TypeFor[api.State]().NumField() {
		x := someState()
		y := copies.State(x)
		one, other := reflect.ValueOf(&x).Elem().Field(i), reflect.ValueOf(&y).Elem().Field(i)
		if one.Kind() != reflect.Slice {
			continue
		}
		lists++
		name := reflect.TypeFor[api.State]().Field(i).Name
		if one.Len() == 0 {
			t.Fatalf("the test's own state has nothing in %s", name)
		}
		one.Slice3(0, one.Cap(), one.Cap()).Clear()
		other = other.Slice3(0, other.Cap(), other.Cap())
		if !reflect.DeepEqual(other.Slice(0, one.Len()).Interface(), reflect.ValueOf(someState()).Field(i).Interface()) {
			t.Errorf("%s is shared", name)
		}
		x = someState()
		y = copies.State(x)
		reflect.ValueOf(&y).Elem().Field(i).Clear()
		if !reflect.DeepEqual(x, someState()) {
			t.Errorf("%s of the copy is shared", name)
		}
	}
	if lists != 7 {
		t.Errorf("%d lists", lists)
	}
}

// TestStateWithOneListTwice: as it may be handed in.
func TestStateWithOneListTwice(t *testing.T) {
	x := someState()
	x.Current, x.Scores = x.Previous, x.Balances
	y := copies.State(x)
	y.Previous[0], y.Balances[0] = 99, 99
	if !slices.Equal(y.Current, []uint8{7, 8}) || !slices.Equal(y.Scores, []uint64{5, 6}) {
		t.Errorf("two lists of the copy are one: %d, %d", y.Current, y.Scores)
	}
}
