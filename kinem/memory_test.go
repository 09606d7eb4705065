package kinem_test

import (
	"slices"
	"sync"
	"testing"

	"skep/kinem"
)

// spoil writes over what a run's lists hold, spare room too.
func spoil(k *kinem.Kin, n int) {
	l := k.Profile(n)
	l = l[:cap(l)]
	for i := range l {
		l[i] = -77
	}
	for length := 1; length <= 2; length++ {
		w := k.Windows(n, length)
		w = w[:cap(w)]
		for i := range w {
			w[i] = [2]int{-77, -78}
		}
	}
}

// R3: to write into what is told changes nothing of what is told later.
func TestToldIsNewMemory(t *testing.T) {
	for _, p := range []plain{{10, 2, 4}, {1, 1, 1}, {7, 3, 11}, {100, 9, 60}} {
		k := made(t, p)
		for range 2 {
			for n := 1; n <= 16; n++ {
				spoil(k, n)
			}
			for n := 1; n <= 16; n++ {
				same(t, k, p, n)
				stops(t, k, p, n, ticks(k.Time(n)))
			}
		}
	}
}

// R3: what was told stays as it was, whatever is asked and written behind it; no two lists share memory.
func TestToldStays(t *testing.T) {
	p := plain{10, 2, 4}
	k := made(t, p)
	var profiles [][]int
	var windows [][][2]int
	for n := 1; n <= 16; n++ {
		profiles = append(profiles, k.Profile(n))
		windows = append(windows, k.Windows(n, 2))
	}
	for n := 1; n <= 16; n++ {
		spoil(k, n)
		_ = append(k.Profile(n), -79)
	}
	for n := 1; n <= 16; n++ {
		want := p.profile(n)
		if !slices.Equal(profiles[n-1], want) || !slices.Equal(windows[n-1], p.windows(want, n, 2)) {
			t.Errorf("%d cells: %v, %v", n, profiles[n-1], windows[n-1])
		}
	}
}

// R4: whichever question comes first, and whatever was asked ahead of it, wrong things too: the same is told.
func TestAnyOrder(t *testing.T) {
	p := plain{20, 3, 8}
	want := p.profile(5)
	cells, further := p.stop(want, 5, 7)
	questions := []func(k *kinem.Kin) bool{
		func(k *kinem.Kin) bool { return slices.Equal(k.Profile(5), want) },
		func(k *kinem.Kin) bool { return k.Time(5) == len(want) },
		func(k *kinem.Kin) bool { return k.At(5, 7) == want[6] },
		func(k *kinem.Kin) bool { return k.Speed(5, 7) == want[6]-want[5] },
		func(k *kinem.Kin) bool { c, f := k.Stop(5, 7); return c == cells && f == further },
		func(k *kinem.Kin) bool { return slices.Equal(k.Windows(5, 2), p.windows(want, 5, 2)) },
		func(k *kinem.Kin) bool { return slices.Equal(k.Windows(5, 1), p.windows(want, 5, 1)) },
		func(k *kinem.Kin) bool { return k.Brake(8) == p.brake(8) },
		func(k *kinem.Kin) bool { return k.Time(17) == 0 && len(k.Profile(0)) == 0 },
		func(k *kinem.Kin) bool { return k.At(-5, 7) == 0 && len(k.Windows(5, 3)) == 0 },
		func(k *kinem.Kin) bool { return slices.Equal(k.Profile(4), p.profile(4)) },
		func(k *kinem.Kin) bool { return slices.Equal(k.Profile(16), p.profile(16)) },
	}
	var luck chance = 3
	for range 300 {
		k := made(t, p)
		for range 20 {
			i := luck.below(len(questions))
			if !questions[i](k) {
				t.Fatal("question", i)
			}
		}
	}
}

// R4: two Kins have nothing in common, with the same numbers or with others.
func TestNothingInCommon(t *testing.T) {
	all := append(chosen(20), plain{10, 2, 4}, plain{10, 2, 4}, plain{10, 2, 5}, plain{10, 3, 4}, plain{11, 2, 4})
	var kins []*kinem.Kin
	for _, p := range all {
		kins = append(kins, made(t, p))
	}
	for n := 16; n >= 1; n-- {
		for i, p := range all {
			same(t, kins[i], p, n)
			spoil(kins[i], n)
		}
	}
	for i, p := range all {
		same(t, kins[i], p, 16)
		same(t, kins[i], p, 1)
	}
}

// R4: several may ask one Kin at the same time: each is told the same.
func TestAskedByMany(t *testing.T) {
	p := plain{100, 3, 20}
	for range 20 {
		k := made(t, p)
		var told [8][16][]int
		var all sync.WaitGroup
		for i := range told {
			all.Go(func() {
				for n := range 16 {
					told[i][n] = k.Profile(n + 1)
				}
			})
		}
		all.Wait()
		for i := range told {
			for n := range 16 {
				if !slices.Equal(told[i][n], p.profile(n+1)) {
					t.Fatalf("%d cells: %v", n+1, told[i][n])
				}
			}
		}
	}
}
