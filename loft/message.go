package loft

import (
	"strings"

	"strickle/api"
)

// message is what a branch tells another one.
type message interface {
	text() string
}

// greeting says how many records of each of n branches somebody has.
type greeting struct {
	n    int
	have api.Have
}

// letter is records.
type letter []api.Record

// asking asks for a promise of a pattern, by a request of a branch, until a day.
type asking struct{ station, number, pattern, until int }

// giving says that a branch has given another one a promise by a request, on a day, and what it had then.
type giving struct {
	giver, station, number, day int
	greeting
}

// freeing says that a branch needs no promise for a pattern any more that was given by its requests up to one.
type freeing struct{ station, number, pattern int }

func (m greeting) numbers() []int { return m.have.Have[:m.n] }

func (m greeting) text() string { return line("have", m.numbers()...) }

func (m letter) text() string {
	text := line("post", len(m))
	for _, x := range m {
		text += recordLine(x) + "\n"
	}
	return text
}

func (m asking) text() string { return line("ask", m.station, m.number, m.pattern, m.until) }

func (m giving) text() string {
	return line("give", append([]int{m.giver, m.station, m.number, m.day}, m.numbers()...)...)
}

func (m freeing) text() string { return line("free", m.station, m.number, m.pattern) }

// greeting reads what is behind `have`.
func (w *words) greeting() message { return greeting{w.n, w.have()} }

// letter reads what is behind `post`.
func (w *words) letter() message {
	lines := strings.Split(w.rest(), "\n")
	w.require(len(lines)-1 == w.numberIn(lines[0], 1, api.MaxLetter))
	var m letter
	for i, text := range lines[1:] {
		x, e := ReadRecord(w.n, text)
		w.require(e == api.OK)
		w.require(i == 0 || place(m[i-1], x) < 0)
		m = append(m, x)
	}
	return m
}

// asking reads what is behind `ask`.
func (w *words) asking() message {
	return asking{w.station(), w.request(), w.pattern(), w.day()}
}

// giving reads what is behind `give`.
func (w *words) giving() message {
	m := giving{giver: w.station(), station: w.station(), number: w.request(), day: w.day()}
	m.greeting = greeting{w.n, w.have()}
	return m
}

// freeing reads what is behind `free`.
func (w *words) freeing() message { return freeing{w.station(), w.request(), w.pattern()} }

// message reads a message without its last line feed.
func (w *words) message() message {
	return chosen(w, map[string]func(*words) message{
		"have": (*words).greeting,
		"post": (*words).letter,
		"ask":  (*words).asking,
		"give": (*words).giving,
		"free": (*words).freeing,
	})
}

// messageOf returns the message of n branches with a text: nil if there is none.
func messageOf(n int, text string) message {
	body, ended := strings.CutSuffix(text, "\n")
	if !ended {
		return nil
	}
	m, _ := read(n, body, (*words).message)
	return m
}
