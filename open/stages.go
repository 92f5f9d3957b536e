package open

import (
	"scree/api"
	"scree/manifest"
	"scree/table"
)

// checkTable holds a table's file to what the version says of it.
func (o *Opener) checkTable(want api.Table) step {
	return func() api.Errno {
		b, err := o.bytesOf(manifest.Name(kindTable, want.Number), api.ErrOpenTable)
		if err != api.OK {
			return err
		}
		t, err := table.Open(b)
		if err != api.OK {
			return err
		}
		got := t.Meta()
		got.Number = want.Number
		if got != want {
			return api.ErrOpenTable
		}
		return api.OK
	}
}

// makeSure makes files, and then the directory, sure: what was read must be there for whoever comes up next.
func (o *Opener) makeSure(names []string) step {
	return func() api.Errno {
		for _, name := range names {
			if err := o.d.Sync(name); err != api.OK {
				return err
			}
		}
		return o.d.SyncDir()
	}
}

// deletes tells the steps that delete files, one each.
func (o *Opener) deletes(names []string) []step {
	var l []step
	for _, name := range names {
		l = append(l, func() api.Errno { return o.d.Delete(name) })
	}
	return l
}

// takeNumber gives out the next number.
func (o *Opener) takeNumber() uint64 {
	number := o.roots.Next
	o.roots.Next++
	return number
}

// newLog makes the log of the life that begins.
func (o *Opener) newLog() api.Errno {
	o.roots.Log = o.takeNumber()
	return inTurn(o.creates(manifest.Name(kindLog, o.roots.Log)), o.d.SyncDir)
}

// newManifest brings in what the logs became, and lays all of it down as a whole version.
func (o *Opener) newManifest() api.Errno {
	if _, err := o.set.Apply(api.Edit{In: o.tables, Pointers: o.set.Pointers()}); err != api.OK {
		return err
	}
	o.roots.Manifest = o.takeNumber()
	name := manifest.Name(kindManifest, o.roots.Manifest)
	return inTurn(
		o.lays(name, manifest.Bytes(0, manifest.Whole(o.set, o.roots))),
		o.d.SyncDir,
		o.clearsNew,
		o.lays(fileNew, manifest.Current(name)),
		func() api.Errno { return o.d.Rename(fileNew, fileCurrent) },
		o.d.SyncDir,
	)
}

// clearsNew deletes what an earlier roll may have left.
func (o *Opener) clearsNew() api.Errno {
	if _, err := o.d.Read(fileNew); err == api.ErrDiskNone {
		return api.OK
	}
	return o.d.Delete(fileNew)
}

func (o *Opener) creates(name string) step {
	return func() api.Errno { return o.d.Create(name) }
}

// lays makes a file of these bytes, all of them sure.
func (o *Opener) lays(name string, b []byte) step {
	return func() api.Errno {
		return inTurn(
			o.creates(name),
			func() api.Errno { return o.d.Append(name, b) },
			func() api.Errno { return o.d.Sync(name) },
		)
	}
}

// inTurn does one after the other, up to the first that answers an error.
func inTurn(l ...step) api.Errno {
	for _, do := range l {
		if err := do(); err != api.OK {
			return err
		}
	}
	return api.OK
}
