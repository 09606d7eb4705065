package tick

import (
	"math"
	"math/big"
	"testing"

	"skep/api"
)

const f = api.Forever

// pair is two arguments and what must be answered.
type pair struct{ a, b, want int }

// two is a call of two arguments.
type two func(a, b int) int

// edges are the numbers at which a call may go wrong: around 0 and Forever, around Forever's root, and the ends of int.
func edges() []int {
	return []int{
		math.MinInt, math.MinInt + 1, -f - 1, -f, -f + 1, -1 << 31, -7, -1,
		0, 1, 2, 3, 7, 10, 600, api.MaxTicks, 1<<31 - 1, 1 << 31, 1<<31 + 1, 3037000499, 3037000500,
		f/3 - 1, f / 3, f/3 + 1, f/2 - 1, f / 2, f/2 + 1, f - 2, f - 1,
		f, f + 1, f + 2, math.MaxInt - 1, math.MaxInt,
	}
}

// spread is numbers of all sizes and both signs, always the same ones.
func spread(n int) []int {
	var l []int
	x := uint64(1)
	for i := range n {
		x = x*6364136223846793005 + 1442695040888963407
		l = append(l, int(x)>>(i%64))
	}
	return l
}

func checkPairs(t *testing.T, name string, call two, l []pair) {
	t.Helper()
	for _, p := range l {
		if got := call(p.a, p.b); got != p.want {
			t.Errorf("%s(%d, %d) is %d, not %d", name, p.a, p.b, got, p.want)
		}
	}
}

func TestCut(t *testing.T) {
	for _, p := range [][2]int{
		{0, 0}, {1, 1}, {9, 9}, {api.MaxTicks, api.MaxTicks}, {f - 1, f - 1}, {f, f}, {f + 1, f}, {math.MaxInt, f},
		{-1, 0}, {-9, 0}, {-f, 0}, {-f - 1, 0}, {math.MinInt, 0},
	} {
		if got := Cut(p[0]); got != p[1] {
			t.Errorf("Cut(%d) is %d, not %d", p[0], got, p[1])
		}
	}
}

func TestSum(t *testing.T) {
	checkPairs(t, "Sum", Sum, []pair{
		{2, 3, 5}, {3, 2, 5}, {0, 0, 0}, {0, 8, 8}, {api.MaxTicks, 1, api.MaxTicks + 1},
		{f, 5, f}, {5, f, f}, {f, 0, f}, {0, f, f}, {f, f, f},
		{f - 1, 0, f - 1}, {f - 1, 1, f}, {f - 1, 2, f}, {f - 2, 1, f - 1}, {f - 1, f - 1, f},
		{f / 2, f/2 - 1, f - 1}, {f / 2, f / 2, f}, {f / 2, f/2 + 1, f},
		{-4, 3, 3}, {3, -4, 3}, {-1, -1, 0}, {f, -1, f}, {f, -f, f}, {f + 1, -1, f}, {f + 1, f + 1, f},
		{math.MinInt, math.MinInt, 0}, {math.MinInt, 7, 7}, {7, math.MinInt, 7},
		{math.MaxInt, 1, f}, {math.MaxInt, math.MaxInt, f}, {math.MaxInt, math.MinInt, f}, {math.MinInt, math.MaxInt, f},
	})
}

func TestLess(t *testing.T) {
	checkPairs(t, "Less", Less, []pair{
		{5, 3, 2}, {3, 5, 0}, {5, 5, 0}, {5, 0, 5}, {0, 5, 0}, {0, 0, 0},
		{f, 0, f}, {f, 1, f}, {f, f - 1, f}, {f, f, f}, {f + 1, 1, f}, {f + 1, f, f},
		{f - 1, 0, f - 1}, {f - 1, 1, f - 2}, {f - 1, f - 2, 1}, {f - 1, f - 1, 0}, {f - 1, f, 0}, {f - 1, f + 1, 0},
		{7, f, 0}, {0, f, 0}, {7, -9, 7}, {-9, 7, 0}, {-9, -7, 0}, {-7, -9, 0}, {f, -1, f}, {f - 1, -1, f - 1},
		{math.MinInt, math.MinInt, 0}, {math.MinInt, math.MaxInt, 0}, {math.MinInt, 1, 0}, {7, math.MinInt, 7},
		{math.MaxInt, math.MinInt, f}, {math.MaxInt, math.MaxInt, f}, {7, math.MaxInt, 0},
	})
}

func TestTimes(t *testing.T) {
	checkPairs(t, "Times", Times, []pair{
		{6, 7, 42}, {7, 6, 42}, {1, 9, 9}, {9, 1, 9}, {0, 9, 0}, {9, 0, 0}, {0, 0, 0},
		{f, 0, 0}, {0, f, 0}, {f, 1, f}, {1, f, f}, {f, 2, f}, {f, f, f}, {f + 1, 0, 0}, {0, f + 1, 0}, {f + 1, 1, f},
		{f - 1, 1, f - 1}, {1, f - 1, f - 1}, {f - 1, 2, f}, {f - 1, f - 1, f},
		{f / 2, 2, f}, {2, f / 2, f}, {f/2 - 1, 2, f - 2}, {f/2 + 1, 2, f}, {f / 4, 4, f}, {f / 2, 3, f}, {f / 2, 4, f},
		{f / 3, 3, f - 1}, {f/3 + 1, 3, f},
		{1 << 31, 1 << 31, f}, {1 << 31, 1<<31 - 1, 1<<62 - 1<<31}, {1<<31 + 1, 1<<31 - 1, f - 1}, {1<<31 + 1, 1 << 31, f},
		{1 << 32, 1 << 32, f}, {1 << 40, 1 << 40, f}, {1 << 33, 1 << 31, f}, {3037000500, 3037000500, f},
		{-3, 9, 0}, {9, -3, 0}, {-3, -9, 0}, {f, -1, 0}, {-1, f, 0},
		{math.MinInt, math.MinInt, 0}, {math.MinInt, -1, 0}, {-1, math.MinInt, 0}, {math.MinInt, math.MaxInt, 0},
		{math.MaxInt, math.MinInt, 0}, {math.MaxInt, math.MaxInt, f}, {math.MaxInt, 1, f}, {math.MaxInt, 0, 0},
	})
}

func TestUp(t *testing.T) {
	checkPairs(t, "Up", Up, []pair{
		{7, 2, 4}, {8, 2, 4}, {9, 2, 5}, {1, 2, 1}, {2, 2, 1}, {3, 2, 2}, {7, 1, 7}, {7, 7, 1}, {7, 8, 1}, {0, 3, 0},
		{7, 0, 0}, {0, 0, 0}, {f, 0, 0}, {f + 1, 0, 0}, {f - 1, 0, 0}, {7, -1, 0}, {f, -1, 0}, {math.MaxInt, math.MinInt, 0},
		{f, 1, f}, {f, 2, f}, {f, 3, f}, {f, f - 1, f}, {f, f, f}, {f, f + 1, f}, {f + 1, 3, f}, {math.MaxInt, math.MaxInt, f},
		{f - 1, 1, f - 1}, {f - 1, 2, f / 2}, {f - 2, 2, f/2 - 1}, {f - 1, 3, f / 3}, {f - 2, 3, f / 3},
		{f - 1, f - 2, 2}, {f - 1, f - 1, 1}, {f - 1, f, 1}, {f - 1, f + 1, 1}, {5, f, 1}, {5, math.MaxInt, 1},
		{0, f, 0}, {-5, 3, 0}, {-5, -3, 0}, {-5, f, 0}, {math.MinInt, -1, 0}, {math.MinInt, 1, 0}, {math.MinInt, math.MinInt, 0},
	})
}

// TestAgainstWide holds each call against the same words reckoned with numbers that have no end.
func TestAgainstWide(t *testing.T) {
	l := append(edges(), spread(256)...)
	for _, a := range l {
		if got, want := Cut(a), narrow(big.NewInt(int64(a))); got != want {
			t.Errorf("Cut(%d) is %d, not %d", a, got, want)
		}
		for _, b := range l {
			checkWide(t, a, b)
		}
	}
}

func checkWide(t *testing.T, a, b int) {
	t.Helper()
	x, y := big.NewInt(int64(narrow(big.NewInt(int64(a))))), big.NewInt(int64(narrow(big.NewInt(int64(b)))))
	less, up := f, 0
	if x.Int64() != f {
		less = narrow(new(big.Int).Sub(x, y))
	}
	if y.Sign() != 0 && x.Int64() == f {
		up = f
	} else if y.Sign() != 0 {
		q := new(big.Int).Add(x, y)
		up = narrow(q.Sub(q, big.NewInt(1)).Div(q, y))
	}
	checkPairs(t, "Sum", Sum, []pair{{a, b, narrow(new(big.Int).Add(x, y))}})
	checkPairs(t, "Less", Less, []pair{{a, b, less}})
	checkPairs(t, "Times", Times, []pair{{a, b, narrow(new(big.Int).Mul(x, y))}})
	checkPairs(t, "Up", Up, []pair{{a, b, up}})
}

// narrow brings a number without end into 0 to Forever.
func narrow(x *big.Int) int {
	if x.Sign() < 0 {
		return 0
	}
	if x.Cmp(big.NewInt(f)) > 0 {
		return f
	}
	return int(x.Int64())
}

func TestTurnedAndGrouped(t *testing.T) {
	l := append(edges(), spread(64)...)
	for _, c := range []struct {
		name string
		call two
	}{{"Sum", Sum}, {"Times", Times}} {
		for _, x := range l {
			for _, y := range l {
				if p, q := c.call(x, y), c.call(y, x); p != q {
					t.Errorf("%s(%d, %d) is %d, turned round %d", c.name, x, y, p, q)
				}
				for _, z := range l {
					if p, q := c.call(c.call(x, y), z), c.call(x, c.call(y, z)); p != q {
						t.Errorf("%s of %d, %d, %d is %d, grouped otherwise %d", c.name, x, y, z, p, q)
					}
				}
			}
		}
	}
}

func TestNothingLeavesTheRange(t *testing.T) {
	l := append(edges(), spread(256)...)
	for _, a := range l {
		if got := Cut(a); got < 0 || got > f {
			t.Errorf("Cut(%d) is %d", a, got)
		}
		for _, b := range l {
			for i, call := range []two{Sum, Less, Times, Up} {
				if got := call(a, b); got < 0 || got > f {
					t.Errorf("call %d of %d, %d is %d", i, a, b, got)
				}
			}
		}
	}
}
