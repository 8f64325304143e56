package prim

import "escutcheon/api"

// Years.
const (
	century  = 100
	epoch    = 1970 // times are counted from its beginning on
	longYear = 2050 // from it on a year is told by four digits
	turn     = 50   // of years told by two digits: those from it on are of the 1900s, the others of the 2000s
)

// The first and the last second of all times.
const (
	firstTime = -631152000   // of 1950
	lastTime  = 253402300799 // of 9999
)

// A body is pairs of digits, and a Z.
const (
	utcPairs  = 6
	timePairs = 7 // the first two digits of the year are told too
	timeEnd   = 'Z'
)

// Days, and years of days.
const (
	minuteSeconds = 60
	hourSeconds   = 60 * minuteSeconds
	daySeconds    = 24 * hourSeconds
	months        = 12
	yearDays      = 365 // without a leap day
	february      = 2
)

// moment is a second by the calendar and the clock.
type moment struct{ year, month, day, hour, minute, second int }

// Time is a time: P13.6.
func Time(tag int, body []byte) (int64, error) {
	if tag != api.TagUTC && tag != api.TagTime {
		return 0, api.ErrArg
	}
	told, ok := pairs(body, pairsUnder(tag))
	if !ok {
		return 0, api.ErrForm
	}
	if tag == api.TagUTC {
		told = append([]int{centuryOf(told[0])}, told...)
	}
	m := moment{told[0]*century + told[1], told[2], told[3], told[4], told[5], told[6]}
	if !m.exists() || tag == api.TagTime && m.year < longYear {
		return 0, api.ErrRange
	}
	return m.time(), nil
}

// TimeOf is its tag and body: P13.6.
func TimeOf(t int64) (int, []byte, error) {
	if t < firstTime || t > lastTime {
		return 0, nil, api.ErrRange
	}
	m := momentOf(t)
	tag := api.TagUTC
	if m.year >= longYear {
		tag = api.TagTime
	}
	all := []int{m.year / century, m.year % century, m.month, m.day, m.hour, m.minute, m.second}
	return tag, pairsBody(all[len(all)-pairsUnder(tag):]), nil
}

func pairsUnder(tag int) int {
	if tag == api.TagUTC {
		return utcPairs
	}
	return timePairs
}

// pairs are a body's numbers of two digits; not ok, if it isn't n of them and a Z.
func pairs(body []byte, n int) (all []int, ok bool) {
	if len(body) != 2*n+1 || body[2*n] != timeEnd {
		return nil, false
	}
	for _, x := range body[:2*n] {
		if x < '0' || x > '9' {
			return nil, false
		}
	}
	for i := range n {
		all = append(all, int(body[2*i]-'0')*10+int(body[2*i+1]-'0'))
	}
	return all, true
}

func pairsBody(all []int) []byte {
	var body []byte
	for _, n := range all {
		body = append(body, byte('0'+n/10), byte('0'+n%10))
	}
	return append(body, timeEnd)
}

// centuryOf is the first two digits of a year of which only the last two are told.
func centuryOf(year int) int {
	if year < turn {
		return 20
	}
	return 19
}

func (m moment) exists() bool {
	return m.month >= 1 && m.month <= months && m.day >= 1 && m.day <= monthDays(m.year, m.month) &&
		m.hour < 24 && m.minute < 60 && m.second < 60
}

func (m moment) time() int64 {
	days := daysAhead(m.year) - daysAhead(epoch) + m.day - 1
	for month := 1; month < m.month; month++ {
		days += monthDays(m.year, month)
	}
	return int64(days)*daySeconds + int64(m.hour*hourSeconds+m.minute*minuteSeconds+m.second)
}

func momentOf(t int64) moment {
	// Counted from the year 1 on, no time is below 0, where division would round up.
	t += int64(daysAhead(epoch)) * daySeconds
	day, clock := int(t/daySeconds), int(t%daySeconds)
	// If all years had leap days, it would be this one: it is that, or one of a few behind.
	year := 1 + day/(yearDays+1)
	for daysAhead(year+1) <= day {
		year++
	}
	day -= daysAhead(year)
	month := 1
	for day >= monthDays(year, month) {
		day -= monthDays(year, month)
		month++
	}
	return moment{year, month, day + 1, clock / hourSeconds, clock % hourSeconds / minuteSeconds, clock % minuteSeconds}
}

// daysAhead is how many days there are from the beginning of the year 1 to that of a year.
func daysAhead(year int) int {
	n := year - 1
	return n*yearDays + n/4 - n/100 + n/400
}

// monthDays is how many days a month has.
func monthDays(year, month int) int {
	switch month {
	case february:
		// What its year has beyond yearDays is the leap day.
		return 28 + daysAhead(year+1) - daysAhead(year) - yearDays
	case 4, 6, 9, 11:
		return 30
	}
	return 31
}
