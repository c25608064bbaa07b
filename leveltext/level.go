package leveltext

import (
	"obelus/api"
	"obelus/numeral"
)

const maxStart = 32767

// checkLevel returns the error of a level of a list; the first one is 1.
func checkLevel(l api.Level, level int) api.Errno {
	switch {
	case l.Format < api.Decimal || l.Format > api.Bullet:
		return api.ErrKind
	case l.Start < 0 || l.Start > maxStart:
		return api.ErrRange
	}
	if e := Check(l.Template, level); e != api.OK {
		return e
	}
	if l.Restart < 0 || l.Restart > level-1 {
		return api.ErrValue
	}
	return api.OK
}

// partsOf returns the parts of the template of a level.
func partsOf(l []api.Level, level int) ([]Part, api.Errno) {
	if e := CheckLevels(l); e != api.OK {
		return nil, e
	}
	if level < 1 || level > len(l) {
		return nil, api.ErrRange
	}
	return Parse(l[level-1].Template)
}

// format returns the format of a placeholder.
func (p Part) format(l []api.Level) int {
	if p.Plain {
		return api.Decimal
	}
	return l[p.Level-1].Format
}

// numeralOf returns the numeral of a number for a placeholder of a format.
func numeralOf(format, n int) string {
	if s, e := numeral.Format(format, n); e == api.OK {
		return s
	}
	if s, e := numeral.Format(api.Decimal, n); e == api.OK {
		return s
	}
	return "?"
}
