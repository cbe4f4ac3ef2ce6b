package schema

import (
	"lintel/api"
)

func bump(state int) api.Move { return api.Move{Kind: api.Bump, State: state} }

func still(state int) api.Move { return api.Move{Kind: api.Still, State: state} }

// plain is a move to no other schema.
func plain(kind int) api.Move { return api.Move{Kind: kind} }

// wayOn answers the moves of a kind of change.
func wayOn(kind int) []api.Move {
	switch kind {
	case api.AddTable:
		return []api.Move{bump(api.Public)}
	case api.AddIndex:
		return []api.Move{bump(api.DeleteOnly), bump(api.WriteOnly), plain(api.Wait), plain(api.Fill), bump(api.Public)}
	case api.DropIndex:
		return []api.Move{bump(api.WriteOnly), bump(api.DeleteOnly), plain(api.Wait), plain(api.Sweep), bump(api.Absent)}
	case api.AddColumn:
		return []api.Move{bump(api.DeleteOnly), bump(api.WriteOnly), plain(api.Wait), plain(api.Fill), still(api.Public)}
	case api.DropColumn:
		return []api.Move{still(api.WriteOnly), bump(api.DeleteOnly), bump(api.Absent)}
	case api.AddForeign:
		return []api.Move{bump(api.WriteOnly), plain(api.Wait), plain(api.Fill), bump(api.Public)}
	case api.DropForeign:
		return []api.Move{bump(api.Absent)}
	}
	return nil
}

// wayBack answers the moves that undo a kind of change, from where it fills on.
func wayBack(kind int) []api.Move {
	switch kind {
	case api.AddIndex:
		return []api.Move{bump(api.DeleteOnly), plain(api.Wait), plain(api.Sweep), bump(api.Absent)}
	case api.AddColumn:
		return []api.Move{bump(api.DeleteOnly), bump(api.Absent)}
	case api.AddForeign:
		return []api.Move{bump(api.Absent)}
	}
	return nil
}
