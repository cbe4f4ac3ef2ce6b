package rows

import (
	"lintel/api"
)

// Changes answers what is written when a row of the table goes from old to new: no cells say that there is none. Nothing, if there is none both times, if the table has no columns, or if new has no bytes.
func Changes(t api.Table, old, new []api.Cell) []api.Write {
	bytes, err := Put(new)
	was, is := len(old) > 0, len(new) > 0
	if err != api.OK || len(t.Columns) == 0 || !was && !is {
		return nil
	}
	var out []api.Write
	put := func(key, value string) { out = append(out, api.Write{Key: key, Value: value}) }
	drop := func(key string) { out = append(out, api.Write{Key: key, Dead: true}) }

	k := keyValue(t, old, new)
	if is {
		put(Row(t.Id, k), bytes)
	} else {
		drop(Row(t.Id, k))
	}
	for _, x := range t.Indexes {
		v, w := Of(old, x.Column), Of(new, x.Column)
		// In every state: a writer who is one state ahead may have put that entry.
		if was && (!is || w != v) {
			drop(Entry(x.Id, v, k))
		}
		// Also where the value stays: a writer who is one state behind may not have put that entry.
		if is && puts(x.State) {
			put(Entry(x.Id, w, k), "")
		}
	}
	return out
}

// keyValue answers the key value of a row that goes from old to new.
func keyValue(t api.Table, old, new []api.Cell) api.Value {
	if len(old) > 0 {
		return Of(old, t.Columns[0].Id)
	}
	return Of(new, t.Columns[0].Id)
}

// puts answers whether entries of an index in that state are put.
func puts(state int) bool {
	return state == api.WriteOnly || state == api.Public
}
