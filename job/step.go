package job

import (
	"strconv"
	"strings"

	"scree/api"
	"scree/sieve"
	"scree/table"
)

const nameDigits = 12 // at least so many in a file's name

// making: a table under way; the zero one: there is none.
type making struct {
	maker  *table.Maker // nil: it has no entry yet
	ended  bool
	file   string // its file's name; empty: it isn't made yet
	number uint64
}

// begin makes a job ready for its first step.
func begin(j *Job) *Job {
	// A chunk of no bytes would never bring it on.
	j.c.MaxChunk = max(j.c.MaxChunk, 1)
	for i := range j.parts {
		j.parts[i].readOn()
	}
	j.plan()
	return j
}

// plan puts down what the next step is.
func (j *Job) plan() {
	waits := len(j.buffer) >= j.c.MaxChunk || j.ended && len(j.buffer) > 0
	switch {
	case waits && j.file == "":
		j.kind, j.do = Make, (*Job).makeFile
	case waits:
		j.kind, j.do = Write, (*Job).write
	case j.ended:
		j.kind, j.do = Seal, (*Job).seal
	case j.hasKeys():
		j.kind, j.do = Fill, (*Job).fill
	default:
		j.rest()
	}
}

// rest ends the job, well or not: it lets go of all but what is still told.
func (j *Job) rest() { *j = Job{sealed: j.sealed, pointer: j.pointer} }

// hasKeys tells whether a key is left in any part.
func (j *Job) hasKeys() bool {
	for i := range j.parts {
		if !j.parts[i].isThrough() {
			return true
		}
	}
	return false
}

// makeFile makes the file of the table under way.
func (j *Job) makeFile(number uint64) api.Errno {
	j.file, j.number = fileName(number), number
	return j.d.Create(j.file)
}

// fileName tells the name of a table's file. A number of more digits than are usual has a name too.
func fileName(number uint64) string {
	digits := strconv.FormatUint(number, 10)
	return "t-" + strings.Repeat("0", max(0, nameDigits-len(digits))) + digits
}

// fill takes keys till a table is ended, or enough was taken for one step.
func (j *Job) fill(uint64) api.Errno {
	// A part is left only here: the table that was sealed last is one of its part till then.
	for j.parts[0].isThrough() {
		j.parts = j.parts[1:]
	}
	p := &j.parts[0]
	for taken := 0; taken < j.c.MaxChunk; {
		run, weight := p.take()
		taken += weight
		if e, stays := sieve.Pick(run, p.below); stays {
			if err := j.lay(e); err != api.OK {
				return err
			}
		}
		if p.isThrough() || j.isFull() {
			j.endTable()
			break
		}
	}
	return api.OK
}

// lay lays an entry into the table under way.
func (j *Job) lay(e api.Entry) api.Errno {
	if j.maker == nil {
		j.maker = table.NewMaker(j.c)
	}
	b, err := j.maker.Add(e)
	j.buffer = append(j.buffer, b...)
	return err
}

// isFull tells whether the table under way has all it may have.
func (j *Job) isFull() bool {
	return j.maker != nil && j.maker.Weight() >= j.c.FileBytes
}

// endTable ends the table under way, if there is one.
func (j *Job) endTable() {
	if j.maker == nil {
		return
	}
	b, _ := j.maker.End() // it has an entry, and hasn't ended: nothing is refused
	j.buffer = append(j.buffer, b...)
	j.ended = true
}

// write lays the first bytes of the buffer into the file.
func (j *Job) write(uint64) api.Errno {
	n := j.Size()
	if err := j.d.Append(j.file, j.buffer[:n]); err != api.OK {
		return err
	}
	j.buffer = j.buffer[n:]
	return api.OK
}

// seal makes the table's file, and then its name, sure.
func (j *Job) seal(uint64) api.Errno {
	if err := j.d.Sync(j.file); err != api.OK {
		return err
	}
	if err := j.d.SyncDir(); err != api.OK {
		return err
	}
	t := j.maker.Meta()
	t.Number = j.number
	j.sealed = append(j.sealed, api.Placed{Level: j.parts[0].level, Table: t})
	j.making = making{}
	return api.OK
}
