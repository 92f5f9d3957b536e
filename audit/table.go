package audit

import (
	"sync"

	"scree/api"
	"scree/manifest"
	"scree/table"
)

// readers: so many workers read tables at a time.
const readers = 4

// tableRead: a table that was read, or the error by which it is refused.
type tableRead struct {
	table *table.Table
	err   api.Errno
}

// openTables reads the files of tables, several at a time. Each worker lays what it finds into the table's own place: which of them read it doesn't show.
func (d directory) openTables(wanted []api.Table) []tableRead {
	found := make([]tableRead, len(wanted))
	places := make(chan int)
	var workers sync.WaitGroup
	for range min(readers, len(wanted)) {
		workers.Add(1)
		go func() {
			defer workers.Done()
			for i := range places {
				found[i] = d.openTable(wanted[i])
			}
		}()
	}
	for i := range wanted {
		places <- i
	}
	close(places)
	workers.Wait()
	return found
}

// openTable reads a table's file, and holds it to what the version says of it.
func (d directory) openTable(want api.Table) tableRead {
	b, ok := d.bytesOf(nameOf(want))
	if !ok {
		return tableRead{err: api.ErrOpenTable}
	}
	t, err := table.Open(b)
	if err != api.OK {
		return tableRead{err: err}
	}
	got := t.Meta()
	got.Number = want.Number
	if got != want {
		return tableRead{err: api.ErrOpenTable}
	}
	return tableRead{table: t}
}

func nameOf(t api.Table) string { return manifest.Name(kindTable, t.Number) }
