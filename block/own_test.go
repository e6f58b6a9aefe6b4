package block

import (
	"testing"

	"coracle/api"
)

// No transaction can be made that has its own ID among what it spends, short of a broken sum: who looks for one is asked with places set by hand.
func TestAheadOfItself(t *testing.T) {
	spends := func(id api.Hash) api.Tx { return api.Tx{Ins: []api.In{{Prev: api.Outpoint{Tx: id}}}} }
	l := []api.Tx{spends(api.Hash{9}), spends(api.Hash{2}), spends(api.Hash{9})}
	for at, want := range []bool{false, true, true} {
		if got := ahead(l, map[api.Hash]int{{2}: at}); got != want {
			t.Errorf("P6.2: the second one spends an output of the one at place %d: ahead is %v", at, got)
		}
	}
}

// Two of one ID spend the same, short of a broken sum, and are refused for that too: that IDs are held against each other is asked with IDs set by hand.
func TestTogetherByIDs(t *testing.T) {
	spends := func(n int) api.Tx { return api.Tx{Ins: []api.In{{Prev: api.Outpoint{Tx: api.Hash{9}, N: n}}}} }
	l := []api.Tx{spends(0), spends(1), spends(2)}
	if !together(l, []api.Hash{{1}, {2}, {3}}) {
		t.Error("P6.2: three of unlike IDs are refused")
	}
	for _, row := range [][]api.Hash{{{1}, {1}, {3}}, {{1}, {2}, {1}}, {{1}, {2}, {2}}, {{1}, {1}, {1}}} {
		if together(l, row) {
			t.Errorf("P6.2: two of one ID are taken: %v", row)
		}
	}
}
