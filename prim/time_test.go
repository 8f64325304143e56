package prim

import (
	"math"
	"math/rand"
	"regexp"
	"strconv"
	"strings"
	"testing"
	"time"

	"escutcheon/api"
)

// What the chapter says of times, told another way: the form is a pattern, and the calendar is the library's.

var forms = map[int]*regexp.Regexp{
	api.TagUTC:  regexp.MustCompile(`\A[0-9]{12}Z\z`),
	api.TagTime: regexp.MustCompile(`\A[0-9]{14}Z\z`),
}

func number(s string) int {
	n, err := strconv.Atoi(s)
	if err != nil {
		panic(err)
	}
	return n
}

func wantTime(tag int, body string) (int64, api.Code) {
	form, known := forms[tag]
	if !known {
		return 0, api.ErrArg
	}
	if !form.MatchString(body) {
		return 0, api.ErrForm
	}
	if tag == api.TagUTC && body[0] >= '5' {
		body = "19" + body
	} else if tag == api.TagUTC {
		body = "20" + body
	} else if body < "2050" {
		return 0, api.ErrRange
	}
	at := time.Date(number(body[:4]), time.Month(number(body[4:6])), number(body[6:8]),
		number(body[8:10]), number(body[10:12]), number(body[12:14]), 0, time.UTC)
	// The library makes another date of one that isn't there.
	if at.Format("20060102150405Z") != body {
		return 0, api.ErrRange
	}
	return at.Unix(), 0
}

func wantTimeOf(t int64) (int, string) {
	at := time.Unix(t, 0).UTC()
	if at.Year() < 2050 {
		return 23, at.Format("060102150405Z")
	}
	return 24, at.Format("20060102150405Z")
}

// Checks.

func checkTime(t *testing.T, tag int, body string, want int64) {
	t.Helper()
	if got, err := Time(tag, []byte(body)); err != nil || got != want {
		t.Errorf("Time(%d, %q) = %d, %v; want %d", tag, body, got, err, want)
	}
}

func checkTimeRefused(t *testing.T, tag int, body string, want api.Code) {
	t.Helper()
	if got, err := Time(tag, []byte(body)); err != want || got != 0 {
		t.Errorf("Time(%d, %q) = %d, %v; want error %d itself", tag, body, got, err, want)
	}
}

func checkTimeBoth(t *testing.T, tag int, body string) api.Code {
	t.Helper()
	want, code := wantTime(tag, body)
	if code != 0 {
		checkTimeRefused(t, tag, body, code)
		return code
	}
	checkTime(t, tag, body, want)
	return 0
}

func checkTimeOf(t *testing.T, at int64, tag int, body string) {
	t.Helper()
	if gotTag, got, err := TimeOf(at); err != nil || gotTag != tag || string(got) != body {
		t.Errorf("TimeOf(%d) = %d, %q, %v; want %d, %q", at, gotTag, got, err, tag, body)
	}
}

func checkNoTime(t *testing.T, at int64) {
	t.Helper()
	if tag, got, err := TimeOf(at); err != api.ErrRange || tag != 0 || len(got) > 0 {
		t.Errorf("TimeOf(%d) = %d, %q, %v; want ErrRange itself", at, tag, got, err)
	}
}

// P13.6

func TestTimesWrittenOut(t *testing.T) {
	for _, c := range []struct {
		tag  int
		body string
		want int64
	}{
		{api.TagUTC, "700101000000Z", 0},               // the chapter's
		{api.TagUTC, "500101000000Z", -631152000},      // the chapter's
		{api.TagTime, "20500101000000Z", 2524608000},   // the chapter's
		{api.TagUTC, "691231235959Z", -1},              // the last second ahead of 0
		{api.TagUTC, "700101000001Z", 1},               // a second
		{api.TagUTC, "700101000100Z", 60},              // a minute
		{api.TagUTC, "700101010000Z", 3600},            // an hour
		{api.TagUTC, "700102000000Z", 86400},           // a day
		{api.TagUTC, "700201000000Z", 31 * 86400},      // a month
		{api.TagUTC, "710101000000Z", 365 * 86400},     // a year
		{api.TagUTC, "000229120000Z", 951825600},       // a leap day of a century that has one
		{api.TagUTC, "000301000000Z", 951868800},       // the day behind it
		{api.TagUTC, "991231235959Z", 946684799},       // the last second of 1999
		{api.TagUTC, "000101000000Z", 946684800},       // the first of 2000
		{api.TagUTC, "261118093000Z", 1794994200},      // any one
		{api.TagUTC, "380119031408Z", 1 << 31},         // above what 31 bits hold
		{api.TagUTC, "491231235959Z", 2524607999},      // the last under this tag
		{api.TagTime, "21000228235959Z", 4107542399},   // the last second of a February without a leap day
		{api.TagTime, "21000301000000Z", 4107542400},   // the next second
		{api.TagTime, "24000229000000Z", 13574563200},  // a leap day again
		{api.TagTime, "99991231235959Z", 253402300799}, // the last of all
		{api.TagTime, "99990101000000Z", 253370764800}, // the first of its year
		{api.TagTime, "40000229235959Z", 64065772799},  // of the year 4000
		{api.TagTime, "20501231235959Z", 2556143999},   // the last of the first year under this tag
		{api.TagUTC, "520229000000Z", -562982400},      // a leap day ahead of 1970
		{api.TagUTC, "500101000001Z", -631151999},      // the second one of all
		{api.TagUTC, "500301000000Z", -631152000 + 59*86400},
	} {
		checkTime(t, c.tag, c.body, c.want)
		checkTimeOf(t, c.want, c.tag, c.body)
	}
}

func TestTimesUnderOtherTags(t *testing.T) {
	for _, tag := range []int{-1, 0, 1, 12, 22, 25, 30, 31, 255, 256 + 23, 256 + 24, -23, -24, math.MinInt, math.MaxInt, 1<<32 + 23, 1<<32 + 24} {
		for _, body := range []string{"700101000000Z", "20500101000000Z", "", "x", "701301000000Z", "19500101000000Z"} {
			checkTimeRefused(t, tag, body, api.ErrArg)
		}
		if got, err := Time(tag, nil); err != api.ErrArg || got != 0 {
			t.Error(tag, got, err)
		}
	}
	// The right form under the other tag is none.
	checkTimeRefused(t, api.TagUTC, "20500101000000Z", api.ErrForm)
	checkTimeRefused(t, api.TagTime, "700101000000Z", api.ErrForm)
}

func TestTimesOfNoForm(t *testing.T) {
	const digits = "2612312359592612312359"
	for tag, right := range map[int]int{api.TagUTC: 13, api.TagTime: 15} {
		if got, err := Time(tag, nil); err != api.ErrForm || got != 0 {
			t.Error(tag, got, err)
		}
		for n := range 20 {
			checkTimeRefused(t, tag, digits[:n], api.ErrForm)
			if n+1 != right {
				checkTimeRefused(t, tag, digits[:n]+"Z", api.ErrForm)
			}
		}
		good := map[int]string{api.TagUTC: "261231235959Z", api.TagTime: "20991231235959Z"}[tag]
		if checkTimeBoth(t, tag, good) != 0 {
			t.Fatal(good)
		}
		for place := range good {
			for x := range 256 {
				body := good[:place] + string([]byte{byte(x)}) + good[place+1:]
				code := checkTimeBoth(t, tag, body)
				digit := x >= '0' && x <= '9'
				if (code == api.ErrForm) == (digit && place < right-1 || x == 'Z' && place == right-1) {
					t.Errorf("%q: %d", body, code)
				}
			}
			// A byte fewer, and a byte more, in each place.
			checkTimeRefused(t, tag, good[:place]+good[place+1:], api.ErrForm)
			for _, x := range []string{"0", "1", "Z", " ", "\x00"} {
				checkTimeRefused(t, tag, good[:place]+x+good[place:], api.ErrForm)
			}
		}
		for _, behind := range []string{"Z", "0", " ", "\n", "\x00", ".0Z", "+0000"} {
			checkTimeRefused(t, tag, good+behind, api.ErrForm)
		}
		checkTimeRefused(t, tag, strings.TrimSuffix(good, "Z")+"z", api.ErrForm)
		checkTimeRefused(t, tag, strings.TrimSuffix(good, "Z")+"+0000", api.ErrForm)
		checkTimeRefused(t, tag, strings.Repeat("0", 1<<20), api.ErrForm)
	}
}

// yearTold is a year as a body of its tag tells it.
func yearTold(year int) (int, string) {
	told := strconv.Itoa(year)
	if year < 2050 {
		return api.TagUTC, told[2:]
	}
	return api.TagTime, told
}

func two(n int) string { return strconv.Itoa(n/10%10) + strconv.Itoa(n%10) }

// Every month, day, hour, minute and second of two digits, in years with and without a leap day.
func TestEveryPartOfATime(t *testing.T) {
	for _, year := range []int{1950, 1951, 1952, 1970, 1999, 2000, 2001, 2023, 2024, 2049, 2050, 2052, 2099, 2100, 2200, 2300, 2400, 2800, 9996, 9999} {
		tag, told := yearTold(year)
		there := 0
		for month := range 100 {
			for day := range 100 {
				if checkTimeBoth(t, tag, told+two(month)+two(day)+"000000Z") == 0 {
					there++
				}
			}
		}
		if want := time.Date(year, 12, 31, 0, 0, 0, 0, time.UTC).YearDay(); there != want {
			t.Errorf("%d has %d days; want %d", year, there, want)
		}
		for n := range 100 {
			checkTimeBoth(t, tag, told+"0228"+two(n)+"0000Z")
			checkTimeBoth(t, tag, told+"0228"+"23"+two(n)+"00Z")
			checkTimeBoth(t, tag, told+"0228"+"2359"+two(n)+"Z")
		}
	}
}

func TestTimesOutOfRange(t *testing.T) {
	for _, body := range []string{
		"260001000000Z", "261301000000Z", "269901000000Z",
		"260100000000Z", "260132000000Z", "260431000000Z", "260631000000Z", "260931000000Z", "261131000000Z", "261232000000Z",
		"260229000000Z", "240230000000Z", "000230000000Z", "010229120000Z",
		"260101240000Z", "260101006000Z", "260101000060Z", "260101235960Z", "260101990000Z",
	} {
		checkTimeRefused(t, api.TagUTC, body, api.ErrRange)
	}
	for _, body := range []string{
		"20491231235959Z", "20260101000000Z", "19500101000000Z", "19491231235959Z", "00000101000000Z", "00010101000000Z",
		"20500001000000Z", "20501301000000Z", "20500100000000Z", "20500132000000Z", "21000229000000Z", "22000229000000Z",
		"24000230000000Z", "20510229000000Z", "20500101240000Z", "20500101006000Z", "20500101000060Z", "99991231235960Z",
		"99991232000000Z", "99991331000000Z", "00000229000000Z", "19000229000000Z", "20480229000000Z",
	} {
		checkTimeRefused(t, api.TagTime, body, api.ErrRange)
	}
	checkTime(t, api.TagUTC, "000229000000Z", 951782400)
	checkTimeRefused(t, api.TagTime, "100000101000000Z", api.ErrForm) // the year 10000
}

// More than one thing is amiss: the tag, then the form, then what there is.
func TestTimesAmissInOrder(t *testing.T) {
	for _, body := range []string{"269999999999z", "269999999999", "x69999999999Z", "26999999999xZ", "26999999999Z", "2699999999999Z"} {
		checkTimeRefused(t, api.TagUTC, body, api.ErrForm)
		checkTimeRefused(t, api.TagTime, "20"+body, api.ErrForm)
		checkTimeRefused(t, api.TagTime, "19"+body, api.ErrForm)
		checkTimeRefused(t, 22, body, api.ErrArg)
		checkTimeRefused(t, 25, "20"+body, api.ErrArg)
	}
	checkTimeRefused(t, api.TagTime, "20491301000000Z", api.ErrRange)
	checkTimeRefused(t, api.TagTime, "204913010000Z", api.ErrForm)
	checkTimeRefused(t, api.TagTime, "20491301000000z", api.ErrForm)
	checkTimeRefused(t, api.TagUTC, "20491301000000Z", api.ErrForm)
}

// Every year of two and of four digits: which it is, and how long.
func TestEveryYear(t *testing.T) {
	for year := range 100 {
		for _, behind := range []string{"0101000000Z", "0228235959Z", "0229000000Z", "0301000000Z", "1231235959Z"} {
			checkTimeBoth(t, api.TagUTC, two(year)+behind)
		}
	}
	for year := range 10000 {
		told := two(year/100) + two(year)
		for _, behind := range []string{"0101000000Z", "0228235959Z", "0229000000Z", "0301000000Z", "1231235959Z"} {
			checkTimeBoth(t, api.TagTime, told+behind)
		}
	}
}

// Every day from 1950 to 9999, one second of it, and both ways.
func TestEveryDay(t *testing.T) {
	const first, last = -7305, 2932896
	for day := int64(first); day <= last; day++ {
		at := day*86400 + (day-first)*7919%86400
		// The library tells the date; its own reader would take most of the time.
		year, month, date := time.Unix(at, 0).UTC().Date()
		tag, told := yearTold(year)
		clock := int(at - day*86400)
		body := told + two(int(month)) + two(date) + two(clock/3600) + two(clock/60%60) + two(clock%60) + "Z"
		checkTimeOf(t, at, tag, body)
		checkTime(t, tag, body, at)
		if t.Failed() {
			t.FailNow()
		}
	}
	checkNoTime(t, first*86400-1)
	checkNoTime(t, (last+1)*86400)
}

func TestEverySecondOfADay(t *testing.T) {
	for _, from := range []int64{-631152000, -86400, 0, 951782400, 2524608000 - 86400, 2524608000, 4107542400 - 86400, 253402300800 - 86400} {
		for at := from; at < from+86400; at++ {
			tag, body := wantTimeOf(at)
			checkTimeOf(t, at, tag, body)
			checkTime(t, tag, body, at)
		}
	}
}

func TestFirstAndLastTimes(t *testing.T) {
	for year := 1950; year <= 9999; year++ {
		first := time.Date(year, 1, 1, 0, 0, 0, 0, time.UTC).Unix()
		last := time.Date(year, 12, 31, 23, 59, 59, 0, time.UTC).Unix()
		tag, told := yearTold(year)
		checkTimeOf(t, first, tag, told+"0101000000Z")
		checkTimeOf(t, last, tag, told+"1231235959Z")
	}
	checkTimeOf(t, -631152000, api.TagUTC, "500101000000Z")
	checkNoTime(t, -631152001)
	checkTimeOf(t, 253402300799, api.TagTime, "99991231235959Z")
	checkNoTime(t, 253402300800)
	for _, beyond := range []int64{-631152002, -631152000 - 86400, -62135596800, -62167219200, -1 << 40, math.MinInt64, math.MinInt64 + 1,
		math.MinInt64 + 62135596800, 253402300801, 253402300800 + 86400, 1 << 40, math.MaxInt64, math.MaxInt64 - 1, math.MaxInt64 - 62135596800} {
		checkNoTime(t, beyond)
	}
}

func TestManyTimes(t *testing.T) {
	r := rand.New(rand.NewSource(6))
	for range 200000 {
		at := -631152000 + r.Int63n(253402300800+631152000)
		if r.Intn(3) == 0 {
			at = -631152000 + r.Int63n(2524608000+631152000)
		}
		tag, body := wantTimeOf(at)
		checkTimeOf(t, at, tag, body)
		checkTime(t, tag, body, at)
		bad := []byte(body)
		bad[r.Intn(len(bad))] = "0123456789Zz /:."[r.Intn(16)]
		checkTimeBoth(t, tag, string(bad))
	}
}
