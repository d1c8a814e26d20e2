// Package line is layer 1: bytes as lines, and texts as data. See shared/doc/01-line.md.
package line

import (
	"slices"
	"strings"

	"duepost/api"
)

const (
	end      = "\r\n"                 // of a line
	stop     = "."                    // the line that stands behind a text
	longest  = api.MaxText - len(end) // bytes of a text's line
	least    = len(end)               // a cutter's lines have room for an end
	greatest = 1 << 16
)

// Line: its text, or what is wrong.
type Line struct {
	Text  string
	Wrong api.Errno
}

// Cutter: of bytes that come.
type Cutter struct {
	most    int
	kept    []byte // of the line that comes, no more than most
	pending int    // all of its bytes, those that were let go, too
	last    byte   // kept apart, as a line of which bytes were let go has an end as well
	lines   int
}

// New: of lines of so many bytes.
func New(most int) (*Cutter, api.Errno) {
	if most < least || most > greatest {
		return nil, api.ErrRange
	}
	return &Cutter{most: most}, api.OK
}

// Feed: pieces come.
func (c *Cutter) Feed(pieces ...string) []Line {
	var came []Line
	give := func(l Line) {
		came = append(came, l)
		c.lines++
	}
	for _, piece := range pieces {
		for i := range len(piece) {
			if c.take(piece[i]) {
				give(c.whole())
			}
		}
	}
	return came
}

// take takes one more byte, and tells if the line is whole by it.
func (c *Cutter) take(b byte) bool {
	c.pending++
	if c.pending <= c.most {
		c.kept = append(c.kept, b)
	}
	ended := c.last == end[0] && b == end[1]
	c.last = b
	return ended
}

// whole answers the line that has come whole, and begins the next one.
func (c *Cutter) whole() Line {
	long := c.pending > c.most
	kept := c.kept
	c.pending, c.kept = 0, kept[:0]
	if long {
		return Line{Wrong: api.ErrLong}
	}
	text := string(kept[:len(kept)-len(end)])
	if !Plain(text) {
		return Line{Wrong: api.ErrForm}
	}
	return Line{Text: text}
}

// Pending: bytes behind the last line.
func (c *Cutter) Pending() int { return c.pending }

// Lines: how many.
func (c *Cutter) Lines() int { return c.lines }

// Data: of a text's lines.
func Data(l []string) (string, api.Errno) {
	if e := wrong(l, longest); e != api.OK {
		return "", e
	}
	var data strings.Builder
	for _, text := range l {
		if strings.HasPrefix(text, stop) {
			data.WriteString(stop)
		}
		data.WriteString(text)
		data.WriteString(end)
	}
	data.WriteString(stop)
	data.WriteString(end)
	return data.String(), api.OK
}

// Undata: and back.
func Undata(s string) ([]string, string, api.Errno) {
	rest := s
	next := func() (text string, whole bool) {
		text, rest, whole = strings.Cut(rest, end)
		return text, whole
	}
	var l []string
lines:
	for {
		text, whole := next()
		switch {
		case !whole:
			return nil, "", api.ErrEnd
		case text == stop:
			break lines
		}
		l = append(l, text)
	}
	if e := wrong(l, longest+len(stop)); e != api.OK {
		return nil, "", e
	}
	for i, text := range l {
		// A piece of s would keep all of s.
		l[i] = strings.Clone(strings.TrimPrefix(text, stop))
	}
	return l, strings.Clone(rest), api.OK
}

// wrong answers what is wrong with a text's lines: a byte that may not be, of any of them, is told ahead of a length.
func wrong(l []string, most int) api.Errno {
	odd := func(text string) bool { return !Plain(text) }
	long := func(text string) bool { return len(text) > most }
	switch {
	case slices.ContainsFunc(l, odd):
		return api.ErrForm
	case slices.ContainsFunc(l, long):
		return api.ErrLong
	}
	return api.OK
}

// Plain: is a text without noughts and ends?
func Plain(s string) bool { return !strings.ContainsAny(s, "\x00\n\r") }
