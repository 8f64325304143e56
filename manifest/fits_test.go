package manifest

import (
	"math"
	"math/rand"
	"testing"

	"escutcheon/api"
)

// P20.3

func checkFits(t *testing.T, version, load, length, ram int) error {
	t.Helper()
	m := api.Manifest{Version: version, Load: load, Length: length}
	want := wantFits(m, ram)
	got := Fits(m, ram)
	if got != want {
		t.Errorf("Fits(Version %d, Load %d, Length %d; %d) = %v; want %v", version, load, length, ram, got, want)
	}
	return got
}

func checkAnswer(t *testing.T, version, load, length, ram int, want error) {
	t.Helper()
	if got := checkFits(t, version, load, length, ram); got != want {
		t.Errorf("Fits(Version %d, Load %d, Length %d; %d) = %v; want %v", version, load, length, ram, got, want)
	}
}

func TestTheChaptersExamples(t *testing.T) {
	checkAnswer(t, 1, 16, 5, 21, nil)
	checkAnswer(t, 1, 16, 5, 20, api.ErrPlace)
	checkNoManifest(t, "the chapter's", []byte{0x30, 0})
}

func TestVersions(t *testing.T) {
	for version := -70; version < 400; version++ {
		want := error(api.ErrVersion)
		if version >= 1 && version <= 64 {
			want = nil
		}
		checkAnswer(t, version, 16, 5, 21, want)
	}
	for _, version := range append(noNumbers(), 1<<31-1, 1<<32+1, 1<<32+64, 257, 65536) {
		checkAnswer(t, version, 16, 5, 21, api.ErrVersion)
	}
}

// That it is of no version is told ahead of that it has no place.
func TestVersionsComeFirst(t *testing.T) {
	for _, version := range []int{math.MinInt, -1, 0, 65, math.MaxInt} {
		for _, load := range []int{math.MinInt, -1, 0, 1, 16, math.MaxInt} {
			for _, length := range []int{math.MinInt, -1, 0, 1, math.MaxInt} {
				for _, ram := range []int{math.MinInt, -1, 0, 1, 16, math.MaxInt} {
					checkAnswer(t, version, load, length, ram, api.ErrVersion)
				}
			}
		}
	}
}

func TestLoads(t *testing.T) {
	for load := -100; load < 1000; load++ {
		want := error(api.ErrPlace)
		if load >= 0 && load%16 == 0 {
			want = nil
		}
		for _, version := range []int{1, 64} {
			checkAnswer(t, version, load, 5, 2000, want)
		}
	}
	for _, load := range []int{-1, 1, 15, 17} {
		checkAnswer(t, 1, load, 1, 100, api.ErrPlace)
	}
	for _, load := range []int{math.MinInt, math.MinInt + 16, -1 << 32, -1 << 31, -32, -16} {
		checkAnswer(t, 1, load, 5, math.MaxInt, api.ErrPlace)
	}
}

func TestLengths(t *testing.T) {
	for _, length := range []int{math.MinInt, math.MinInt + 1, -1 << 32, -1 << 31, -17, -16, -1, 0} {
		for _, load := range []int{0, 16, 32} {
			for _, ram := range []int{math.MinInt, -17, -16, -1, 0, 1, 16, 100, math.MaxInt} {
				checkAnswer(t, 1, load, length, ram, api.ErrPlace)
			}
		}
	}
	checkAnswer(t, 1, 0, 1, 1, nil)
	checkAnswer(t, 1, 0, 1, 0, api.ErrPlace)
}

// The memory has just enough bytes, one more, or one too few.
func TestJustEnough(t *testing.T) {
	for load := 0; load <= 1<<16; load += 16 {
		for _, length := range []int{1, 2, 15, 16, 17, 255, 1 << 15} {
			checkAnswer(t, 7, load, length, load+length-1, api.ErrPlace)
			checkAnswer(t, 7, load, length, load+length, nil)
			checkAnswer(t, 7, load, length, load+length+1, nil)
		}
	}
	for _, ram := range []int{math.MinInt, math.MinInt + 1, -1 << 31, -17, -16, -1, 0} {
		for _, load := range []int{0, 16, math.MaxInt - 15} {
			for _, length := range []int{1, 16, math.MaxInt} {
				checkAnswer(t, 1, load, length, ram, api.ErrPlace)
			}
		}
	}
}

// The sum is no int, or just one.
func TestGreatNumbers(t *testing.T) {
	const last = math.MaxInt - 15 // the last place that is a multiple of a block
	for _, c := range []struct {
		load, length, ram int
		want              error
	}{
		{last, 15, math.MaxInt, nil}, {last, 15, math.MaxInt - 1, api.ErrPlace}, {last, 14, math.MaxInt - 1, nil}, {last, 1, math.MaxInt, nil},
		{last, 16, math.MaxInt, api.ErrPlace}, {last, 17, math.MaxInt, api.ErrPlace}, {last, math.MaxInt, math.MaxInt, api.ErrPlace}, {last, math.MaxInt, 100, api.ErrPlace},
		{16, math.MaxInt, math.MaxInt, api.ErrPlace}, {16, math.MaxInt - 16, math.MaxInt, nil}, {16, math.MaxInt - 15, math.MaxInt, api.ErrPlace}, {16, math.MaxInt, math.MinInt, api.ErrPlace},
		{0, math.MaxInt, math.MaxInt, nil}, {0, math.MaxInt, math.MaxInt - 1, api.ErrPlace}, {1 << 62, 1 << 62, math.MaxInt, api.ErrPlace}, {1 << 62, 1<<62 - 1, math.MaxInt, nil},
		{1<<31 - 16, 1<<31 - 1, 1<<32 - 17, nil}, {1<<31 - 16, 1<<31 - 1, 1<<32 - 18, api.ErrPlace}, {1<<31 - 16, 15, 1<<31 - 1, nil}, {1<<31 - 16, 16, 1<<31 - 1, api.ErrPlace},
	} {
		checkAnswer(t, 64, c.load, c.length, c.ram, c.want)
	}
}

func TestManyNumbers(t *testing.T) {
	few := []int{math.MinInt, math.MinInt + 1, math.MinInt + 16, -1 << 32, -1 << 31, -64, -17, -16, -15, -2, -1, 0, 1, 2, 14, 15, 16, 17, 20, 21, 31, 32, 33, 48, 63, 64, 65, 66, 1<<31 - 1, 1 << 31, 1 << 32, 1 << 62, math.MaxInt - 31, math.MaxInt - 16, math.MaxInt - 15, math.MaxInt - 1, math.MaxInt}
	for _, load := range few {
		for _, length := range few {
			for _, ram := range few {
				checkFits(t, 1, load, length, ram)
			}
		}
	}
	r := rand.New(rand.NewSource(7))
	answers := map[error]int{}
	for range 200000 {
		load := r.Intn(6) * 16
		if r.Intn(4) == 0 {
			load = r.Intn(96)
		}
		answers[checkFits(t, r.Intn(70)-2, load, r.Intn(60)-2, r.Intn(160))]++
	}
	for _, want := range []error{nil, api.ErrVersion, api.ErrPlace} {
		if answers[want] < 10000 {
			t.Error(want, answers[want])
		}
	}
}

// Nothing else of a manifest is asked.
func TestFitsAsksNothingElse(t *testing.T) {
	for _, class := range append(someNumbers(), noNumbers()...) {
		for _, m := range []api.Manifest{full(), zero(), {}} {
			m.Version, m.Class, m.Load, m.Length = 64, class, 32, 9
			if got := Fits(m, 41); got != nil {
				t.Errorf("Fits(%+v) = %v", m, got)
			}
			if got := Fits(m, 40); got != api.ErrPlace {
				t.Errorf("Fits(%+v) = %v", m, got)
			}
		}
	}
}
