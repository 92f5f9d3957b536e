package script

import (
	"scree/api"
	"scree/store"
)

var didWords = [...]string{
	api.DidNothing:  "nothing",
	api.DidIdle:     "idle",
	api.DidWait:     "wait",
	api.DidRefused:  "refused",
	api.DidTake:     "take",
	api.DidAdmit:    "admit",
	api.DidLead:     "lead",
	api.DidSwitch:   "switch",
	api.DidAppend:   "append",
	api.DidSync:     "sync",
	api.DidInsert:   "insert",
	api.DidPublish:  "publish",
	api.DidPin:      "pin",
	api.DidLook:     "look",
	api.DidDone:     "done",
	api.DidClaim:    "claim",
	api.DidMake:     "make",
	api.DidFill:     "fill",
	api.DidWrite:    "write",
	api.DidSeal:     "seal",
	api.DidRoll:     "roll",
	api.DidInstall:  "install",
	api.DidOpen:     "open",
	api.DidUp:       "up",
	api.DidTick:     "tick",
	api.DidFall:     "fall",
	api.DidRig:      "rig",
	api.DidReadOnly: "readonly",
}

var whyWords = [...]string{
	api.WaitTurn:    "turn",
	api.WaitPending: "pending",
	api.WaitDebt:    "debt",
	api.WaitStop:    "stop",
	api.WaitSlow:    "slow",
	api.WaitLead:    "lead",
	api.WaitRoom:    "room",
	api.WaitLocks:   "locks",
	api.WaitTokens:  "tokens",
}

// Play plays a script over an empty disk and tells all replies.
func Play(config, text string, draws []byte) (string, error) {
	c, err := Config(config)
	if err != nil {
		return "", err
	}
	l, err := Parse(text)
	if err != nil {
		return "", err
	}
	// Nothing is refused: the configuration is right, and there are no files.
	s, _ := store.New(c, 0, nil, draws)
	var t printer
	for _, x := range l {
		t.reply(s.Step(x))
		t.end()
	}
	return string(t.text), nil
}

// reply lays what a reply tells.
func (t *printer) reply(r api.Reply) {
	t.put(didWords[r.Did])
	if r.Why != 0 {
		t.put(whyWords[r.Why])
	}
	if r.Err != api.OK {
		t.numbers("err", int(r.Err))
	}
	if r.Found {
		t.put("found", quote(r.Val))
	}
	for _, p := range r.Pairs {
		t.put("pair", quote(p.Key), quote(p.Val))
	}
	if r.Snap != 0 {
		t.numbers("snap", r.Snap)
	}
	if r.Wrote != 0 {
		t.numbers("wrote", r.Wrote)
	}
}
