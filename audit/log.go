package audit

import (
	"slices"

	"scree/api"
	"scree/ikey"
	"scree/log"
)

// logRead: what a log says.
type logRead struct {
	entries []api.Entry // of the records ahead of the first that is refused
	refused api.Errno   // its error
	torn    bool        // there are bytes behind the last whole record
}

func readLog(b []byte) logRead {
	recs, _, err := log.Read(b)
	x := logRead{torn: err != api.OK}
	for _, rec := range recs {
		first, group, err := log.Get(rec)
		if err != api.OK {
			x.refused = err
			break
		}
		for _, batch := range group {
			x.entries = append(x.entries, ikey.Entries(first, batch)...)
			first += uint64(len(batch))
		}
	}
	return x
}

// isFar tells whether the number of an entry is too near to its end.
func (x logRead) isFar() bool {
	return slices.ContainsFunc(x.entries, func(e api.Entry) bool { return e.Seq > mostEntry })
}
