package audit

import (
	"iter"
	"maps"
	"slices"

	"scree/api"
)

// newest: of each key the newest entry that was seen. Of several of one number the one that was seen first stays.
type newest map[string]api.Entry

func (n newest) see(l iter.Seq[api.Entry]) {
	for e := range l {
		if was, ok := n[e.Key]; !ok || e.Seq > was.Seq {
			n[e.Key] = e
		}
	}
}

// pairs tells what the entries mean, if nothing was refused.
func (r *reading) pairs() []api.Pair {
	n := newest{}
	for _, entries := range slices.Backward(r.logs) {
		n.see(slices.Values(entries))
	}
	for _, t := range r.tables {
		n.see(t.From(""))
	}
	var l []api.Pair
	for _, key := range slices.Sorted(maps.Keys(n)) {
		if e := n[key]; !e.Del {
			l = append(l, api.Pair{Key: key, Val: e.Val})
		}
	}
	return l
}
