package heap

import "testing"

// spareIsBare fails if the spare room still holds something that was taken out.
func spareIsBare(t *testing.T, h *Heap[*int]) {
	t.Helper()
	for i, it := range h.items[len(h.items):cap(h.items)] {
		if it.v != nil {
			t.Fatalf("with %d left, %d is kept in the spare room at %d", len(h.items), *it.v, i)
		}
	}
}

// What is taken out is not kept: neither what was popped nor what was dropped.
func TestNothingIsKept(t *testing.T) {
	h := New(func(a, b *int) bool { return *a < *b })
	for i := range 100 {
		v := i * 37 % 100
		h.Push(&v)
	}
	for range 30 {
		h.Pop()
		spareIsBare(t, h)
	}
	if n := h.Drop(func(v *int) bool { return *v%2 == 0 }); n != 35 {
		t.Errorf("%d dropped", n)
	}
	spareIsBare(t, h)
	for range h.All() {
		break
	}
	for range 35 {
		h.Pop()
		spareIsBare(t, h)
	}
	if h.Len() != 0 {
		t.Errorf("%d left", h.Len())
	}
}
