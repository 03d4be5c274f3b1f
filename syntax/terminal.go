package syntax

import (
	"strings"

	"pegtable/api"
)

const (
	barredInLiteral = "\n'"
	barredInClass   = "\n]-"
	// The greatest byte that can be written behind a backslash. In a range that begins above it no backslash can follow the '-'.
	greatestEscaped = ']'
)

func (r *reader) terminal() (*Part, bool) {
	if r.terminals == api.MaxTerminals {
		return nil, false
	}
	number := r.terminals
	r.terminals++
	switch {
	case r.take('\''):
		text, ok := r.literal()
		return &Part{Kind: Literal, Terminal: number, Text: text}, ok
	case r.take('['):
		ranges, ok := r.ranges()
		return classOf(number, ranges...), ok
	}
	return &Part{Kind: Any, Terminal: number}, r.take('.')
}

func (r *reader) literal() (string, bool) {
	var text []byte
	for !r.take('\'') {
		b, ok := r.byteFrom(0, barredInLiteral)
		if !ok {
			return "", false
		}
		text = append(text, b)
	}
	return string(text), true
}

func (r *reader) ranges() ([]Range, bool) {
	var ranges []Range
	for {
		one, ok := r.oneRange()
		if !ok {
			return nil, false
		}
		ranges = append(ranges, one)
		if r.take(']') {
			return ranges, true
		}
	}
}

func (r *reader) oneRange() (Range, bool) {
	first, ok := r.byteFrom(0, barredInClass)
	if !ok || !r.take('-') {
		return Range{First: first, Last: first}, ok
	}
	last, ok := r.byteFrom(first, barredInClass)
	return Range{First: first, Last: last}, ok
}

// byteFrom reads a byte, plain or behind a backslash, that is not below least.
func (r *reader) byteFrom(least byte, barred string) (byte, bool) {
	next := r.next()
	if next == none {
		return 0, false
	}
	if next == '\\' {
		return r.escaped(least)
	}
	b := byte(next)
	if b < least || strings.IndexByte(barred, b) >= 0 {
		return 0, false
	}
	r.at++
	return b, true
}

func (r *reader) escaped(least byte) (byte, bool) {
	if least > greatestEscaped || !r.take('\\') {
		return 0, false
	}
	b, ok := meaning(r.next())
	if !ok || b < least {
		return 0, false
	}
	r.at++
	return b, true
}

func meaning(sign int) (byte, bool) {
	switch sign {
	case 'n':
		return '\n', true
	case '\'', '\\', ']', '-':
		return byte(sign), true
	}
	return 0, false
}
