package script

import "scree/api"

// row: how what stands behind the first word of a step's line is read. Go calls what stands in a literal from the left, so that the literals of the rows want things in the order of the line.
type row func(r *reader) api.Step

// rowOf tells the row of a first word; nil: no step has that word.
func rowOf(first string) row {
	switch first {
	case "write":
		return readWrite
	case "sync":
		return readSync
	case "get":
		return readGet
	case "scan":
		return readScan
	case "snap":
		return readSnap
	case "release":
		return readRelease
	case "do":
		return readDo
	case "tick":
		return readTick
	case "fall":
		return readFall
	case "arm":
		return readArm
	case "fail":
		return readFail
	}
	return nil
}

func readWrite(r *reader) api.Step {
	client := r.number()
	op := api.Op{Kind: api.OpWrite}
	for r.more() && !op.Sync {
		switch p := r.next(); p.word() {
		case "put":
			op.Writes = append(op.Writes, api.Write{Key: r.text(), Val: r.text()})
		case "del":
			op.Writes = append(op.Writes, api.Write{Key: r.text(), Del: true})
		case "sync":
			op.Sync = true
		default:
			r.fail(p, api.ErrScriptWord)
		}
	}
	return api.Step{Kind: api.StepSubmit, A: client, Op: op}
}

func readSync(r *reader) api.Step {
	return api.Step{Kind: api.StepSubmit, A: r.number(), Op: api.Op{Kind: api.OpSync}}
}

func readGet(r *reader) api.Step {
	return api.Step{Kind: api.StepSubmit, A: r.number(), Op: api.Op{
		Kind: api.OpGet, Key: r.text(), Snap: readView(r),
	}}
}

func readScan(r *reader) api.Step {
	return api.Step{Kind: api.StepSubmit, A: r.number(), Op: api.Op{
		Kind: api.OpScan, Key: r.text(), To: r.text(), N: r.number(), Snap: readView(r),
	}}
}

// readView reads the snapshot that a read is for, if its line goes on.
func readView(r *reader) int {
	if !r.more() {
		return 0
	}
	r.word("snap")
	return r.number()
}

func readSnap(r *reader) api.Step {
	return api.Step{Kind: api.StepSubmit, A: r.number(), Op: api.Op{Kind: api.OpSnap}}
}

func readRelease(r *reader) api.Step {
	return api.Step{Kind: api.StepSubmit, A: r.number(), Op: api.Op{Kind: api.OpRelease, Snap: r.number()}}
}

func readDo(r *reader) api.Step { return api.Step{Kind: api.StepMachine, A: r.number()} }

func readTick(*reader) api.Step { return api.Step{Kind: api.StepTick} }

func readFall(r *reader) api.Step {
	x := api.Step{Kind: api.StepFall, A: r.number()}
	for r.more() {
		x.Keep = append(x.Keep, r.number())
	}
	return x
}

func readArm(r *reader) api.Step { return api.Step{Kind: api.StepArm, A: r.number()} }

func readFail(r *reader) api.Step {
	return api.Step{Kind: api.StepFail, A: r.number(), B: r.number(), C: r.number()}
}
