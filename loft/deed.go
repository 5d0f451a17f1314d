package loft

import (
	"strickle/api"
	"strickle/solid"
	"strickle/trace"
)

// deed is what a text that has a form says.
type deed interface {
	// touches returns the Id of the pattern that must be there: 0 if there need not be any.
	touches() int
	// enter enters it into a book, as what the record with an Id says, of a branch.
	enter(b *book, id, station int) api.Errno
}

// making says that there is a new pattern.
type making struct {
	size int
	wood api.Solid
}

// keeping says that there is a kept piece more for a pattern.
type keeping struct {
	pattern int
	piece   api.Solid
}

// acting says that something was done to a pattern.
type acting struct {
	pattern int
	action  api.Action
}

func (making) touches() int { return 0 }

func (d keeping) touches() int { return d.pattern }

func (d acting) touches() int { return d.pattern }

// solid reads a solid that is not empty.
func (w *words) solid() api.Solid {
	s, e := solid.Read(w.next())
	w.require(e == api.OK && s != api.Solid{})
	return s
}

// making reads what is behind `new`.
func (w *words) making() deed {
	size := w.number(1, api.MaxSize)
	return making{size, w.solid()}
}

// keeping reads what is behind `keep`.
func (w *words) keeping() deed {
	pattern := w.pattern()
	return keeping{pattern, w.solid()}
}

// acting reads what is behind `do`.
func (w *words) acting() deed {
	pattern := w.pattern()
	action, e := trace.Read(w.rest())
	w.require(e == api.OK)
	return acting{pattern, action}
}

// deed reads a text that has a form.
func (w *words) deed() deed {
	return chosen(w, map[string]func(*words) deed{"new": (*words).making, "keep": (*words).keeping, "do": (*words).acting})
}

// deedOf returns what a text says: nil if it has no form.
func deedOf(text string) deed {
	d, _ := read(0, text, (*words).deed)
	return d
}
