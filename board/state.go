package board

import (
	"lintel/api"
	"lintel/schema"
)

// strange tells whether a lease may not be.
func strange(l api.Lease) bool { return l.Version < 0 || l.Until < 0 }

// mayStand tells whether a job may stand where its Phase and its End say.
func mayStand(j api.Job) bool {
	if j.End < api.Running || j.End > api.Refused {
		return false
	}
	last := len(path(&j))
	if j.End == api.Running {
		last--
	}
	return j.Phase >= 0 && j.Phase <= last
}

// cloneSchema answers a copy of a schema that is right: its tables have unlike names, and what is told of one is new memory.
func cloneSchema(s api.Schema) api.Schema {
	var tables []api.Table
	for _, t := range s.Tables {
		copied, _ := schema.Table(s, t.Name)
		tables = append(tables, copied)
	}
	s.Tables = tables
	return s
}

func cloneJob(j api.Job) api.Job {
	j.Ddl.Columns = own(j.Ddl.Columns)
	return j
}

// own answers a copy; of an empty list none at all.
func own[T any](list []T) []T { return append([]T(nil), list...) }
