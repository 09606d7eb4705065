package heap_test

import (
	"slices"
	"testing"
)

// follows fails unless things with these keys come out sorted, those alike in their first order.
func follows(t *testing.T, keys []int) {
	t.Helper()
	l := things(keys...)
	if got, want := emptied(t, filled(byKey, l)), sorted(l); !slices.Equal(got, want) {
		if len(keys) > 20 {
			t.Fatalf("%d things are not in order", len(keys))
		}
		t.Fatalf("keys %v: %v, want %v", keys, got, want)
	}
}

// P10.3: every row of a few keys, thus every order of as many items, with all that may be alike.
func TestFewFollow(t *testing.T) {
	for n := range 7 {
		rows(n, max(n, 1), func(keys []int) { follows(t, keys) })
	}
	for n := 7; n <= 12; n++ {
		rows(n, 2, func(keys []int) { follows(t, keys) })
	}
}

// orders goes through every order of a row, from the place at on.
func orders(row []int, at int, each func(row []int)) {
	if at >= len(row)-1 {
		each(row)
		return
	}
	for i := at; i < len(row); i++ {
		row[at], row[i] = row[i], row[at]
		orders(row, at+1, each)
		row[at], row[i] = row[i], row[at]
	}
}

// P10.3: every order of eight items, none alike, and two by two alike.
func TestEveryOrder(t *testing.T) {
	for _, row := range [][]int{{1, 2, 3, 4, 5, 6, 7, 8}, {1, 1, 2, 2, 3, 3, 4, 4}} {
		orders(row, 0, func(row []int) { follows(t, row) })
	}
}

// P10.3: long rows: rising, falling, up and down, of few and of many keys, and all alike.
func TestLongRowsFollow(t *testing.T) {
	var luck chance = 77
	for _, n := range []int{100, 1023, 1024, 1025, 1 << 17} {
		for _, key := range []func(i int) int{
			func(i int) int { return i },
			func(i int) int { return -i },
			func(i int) int { return min(i, n-i) },
			func(i int) int { return max(i, n-i) },
			func(i int) int { return i % 3 },
			func(i int) int { return luck.below(5) },
			func(i int) int { return luck.below(1 << 30) },
			func(i int) int { return 0 },
		} {
			keys := make([]int, n)
			for i := range keys {
				keys[i] = key(i)
			}
			follows(t, keys)
		}
	}
}

// P10.3: numbers and texts of all kinds come out sorted, those alike in their first order.
func TestKindsFollow(t *testing.T) {
	for _, k := range numberKinds() {
		kindFollows(t, k)
	}
	for _, k := range textKinds() {
		kindFollows(t, k)
	}
	for _, k := range thingKinds() {
		kindFollows(t, k)
	}
}

func kindFollows[T comparable](t *testing.T, k kind[T]) {
	var luck chance = 8
	for n := range 60 {
		var row []T
		for range n * n / 4 {
			row = append(row, k.draw(&luck))
		}
		want := slices.Clone(row)
		slices.SortStableFunc(want, func(a, b T) int {
			switch {
			case k.less(a, b):
				return -1
			case k.less(b, a):
				return 1
			}
			return 0
		})
		if got := emptied(t, filled(k.less, row)); !slices.Equal(got, want) {
			t.Fatalf("%s: %v, want %v", k.name, got, want)
		}
	}
}
