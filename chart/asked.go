package chart

import (
	"errors"
	"slices"

	"interlocutor/api"
	"interlocutor/gram"
)

// mostOfAll is the greatest most that may be asked for.
const mostOfAll = 1_000_000_000

// errRefused is what stops the work on something that may not be.
var errRefused = errors.New("refused")

// unlessRefused tells what the work answers, or nothing if it panics: no panic
// leaves a face, whatever it is.
func unlessRefused[T any](work func() T) (told T) {
	defer func() { _ = recover() }()
	return work()
}

// asked is what a face was handed.
type asked struct {
	rules     []api.Rule
	toks      []api.Tok
	size      int
	sym, most int
}

// check stops the work if a part of what is asked may not be.
func (a asked) check() {
	for _, isRight := range [...]func(asked) bool{asked.hasRules, asked.hasSigns, asked.hasSymbol, asked.hasMost} {
		if !isRight(a) {
			panic(errRefused)
		}
	}
}

func (a asked) hasRules() bool { return gram.Check(a.rules) }

func (a asked) hasSigns() bool {
	return !slices.ContainsFunc(a.toks, func(t api.Tok) bool {
		return t.From < 0 || t.To <= t.From || t.To > a.size
	})
}

func (a asked) hasSymbol() bool { return a.sym >= 0 && a.sym < api.MaxNon }

func (a asked) hasMost() bool { return a.most >= 0 && a.most <= mostOfAll }

// between leaves out the signs that no derivation between these places has in it.
func (a asked) between(from, to int) asked {
	var toks []api.Tok
	for _, t := range a.toks {
		if t.From >= from && t.To <= to {
			toks = append(toks, t)
		}
	}
	a.toks = toks
	return a
}

// draw makes the table of all that may be derived.
func (a asked) draw() *table {
	t := newTable(a.rules, a.toks, a.most)
	// What begins behind a place is there ahead of what begins at it.
	for from := len(t.places) - 1; from >= 0; from-- {
		t.fill(from)
	}
	return t
}
