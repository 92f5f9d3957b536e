package open

import (
	"scree/api"
	"scree/job"
	"scree/log"
	"scree/mem"
)

// readLogs reads the first of these logs: what it holds is flushed ahead of the others.
func (o *Opener) readLogs(names []string) step {
	return func() api.Errno {
		b, err := o.d.Read(names[0])
		if err != api.OK {
			return err
		}
		t, whole, err := memtableOf(b)
		if err != api.OK {
			return err
		}
		o.roots.Seq = max(o.roots.Seq, t.Last())
		// What was written behind a record that is lost must be lost, too.
		if whole && len(names) > 1 {
			o.ahead(o.readLogs(names[1:]))
		}
		if t.Weight() > 0 {
			o.ahead(o.flush(job.Flush(o.c, o.d, t)))
		}
		return api.OK
	}
}

// memtableOf tells what the records of a log hold up to the first that isn't right, and whether that is all of it.
func memtableOf(b []byte) (*mem.Table, bool, api.Errno) {
	recs, _, torn := log.Read(b)
	t := mem.New(nil)
	read := 0
	err := api.OK
reading:
	for _, rec := range recs {
		first, group, refused := log.Get(rec)
		if refused != api.OK {
			break
		}
		for _, batch := range group {
			if err = addBatch(t, first, batch); err != api.OK {
				break reading
			}
			first += uint64(len(batch))
		}
		read++
	}
	return t, torn == api.OK && read == len(recs), err
}

// addBatch puts a batch in; it is refused, if a number of it is too near to its end.
func addBatch(t *mem.Table, first uint64, l []api.Write) api.Errno {
	if err := t.Add(first, l); err != api.OK {
		return err
	}
	if t.Last() > mostEntry {
		return api.ErrOpenNumber
	}
	return api.OK
}

// flush does the next step of a flush, and stays ahead of all others till it is done.
func (o *Opener) flush(j *job.Job) step {
	return func() api.Errno {
		var number uint64 // a Make alone looks at it
		if j.Next() == job.Make {
			number = o.takeNumber()
		}
		if err := j.Step(number); err != api.OK {
			return err
		}
		if j.Next() != job.Done {
			o.ahead(o.flush(j))
			return api.OK
		}
		o.tables = append(o.tables, j.Out()...)
		return api.OK
	}
}
