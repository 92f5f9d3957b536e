package script

import (
	"errors"
	"slices"

	"scree/api"
)

// mostTimes: a repeat is done so often at most.
const mostTimes = 1000

// script: a script, as far as it was read.
type script struct {
	steps []api.Step // those of the repeat under way once
	body  int        // where these begin
	times int        // how often they are done; 0: no repeat is under way
}

// Parse reads a script.
func Parse(text string) ([]api.Step, error) {
	if len(text) > api.MaxScriptText {
		return nil, tooLong()
	}
	lines := split(text)
	var s script
	for _, l := range lines {
		if err := s.take(&reader{left: l}); err != nil {
			return nil, misread(err, l[0])
		}
	}
	if s.times > 0 {
		return nil, textEnd(lines).misread(api.ErrScriptEnd)
	}
	return s.steps, nil
}

// misread tells where a line's fault is. One from within it tells its place; any other one is the whole line's, and is at its first piece.
func misread(err error, first piece) *Misread {
	var within *Misread
	if errors.As(err, &within) {
		return within
	}
	var whole api.Errno
	errors.As(err, &whole)
	return first.misread(whole)
}

// take reads a line.
func (s *script) take(r *reader) error {
	if !r.more() {
		return nil
	}
	switch first := r.next().word(); first {
	case "repeat":
		return s.takeRepeat(r)
	case "end":
		return s.takeEnd(r)
	default:
		return s.takeStep(r, rowOf(first))
	}
}

// takeRepeat begins a repeat.
func (s *script) takeRepeat(r *reader) error {
	if s.times > 0 {
		return api.ErrScriptWord
	}
	s.body, s.times = len(s.steps), r.numberOf(1, mostTimes)
	return r.end()
}

// takeEnd ends the repeat that is under way.
func (s *script) takeEnd(r *reader) error {
	if s.times == 0 {
		return api.ErrScriptWord
	}
	body := s.steps[s.body:]
	if s.body+s.times*len(body) > api.MaxSteps {
		return api.ErrScriptMany
	}
	if err := r.end(); err != nil {
		return err
	}
	for range s.times - 1 {
		for _, x := range body {
			s.steps = append(s.steps, anew(x))
		}
	}
	s.times = 0
	return nil
}

// takeStep reads the rest of a step's line by its row of the table.
func (s *script) takeStep(r *reader, read row) error {
	if read == nil {
		return api.ErrScriptWord
	}
	if len(s.steps) == api.MaxSteps {
		return api.ErrScriptMany
	}
	x := read(r)
	if err := r.end(); err != nil {
		return err
	}
	s.steps = append(s.steps, x)
	return nil
}

// anew makes a step that shares no memory with this one.
func anew(x api.Step) api.Step {
	x.Keep = slices.Clone(x.Keep)
	x.Op.Writes = slices.Clone(x.Op.Writes)
	return x
}
