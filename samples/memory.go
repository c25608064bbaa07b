package samples

import "obelus/api"

// Apart reports whether no two slices in some documents, edits, splices, flows, rows, heads, properties, layers, revisions, decisions, ranges, numbers and bools share memory, up to their capacities.
func Apart(values ...any) bool {
	seen := make(map[any]bool)
	for _, value := range values {
		for _, address := range addresses(nil, value) {
			if seen[address] {
				return false
			}
			seen[address] = true
		}
	}
	return true
}

// addresses appends the addresses of the elements of all slices in a value.
func addresses(found []any, value any) []any {
	switch v := value.(type) {
	case api.Document:
		return inList(addresses(addresses(inList(found, v.Flow), v.End), v.Settings), v.Revs)
	case api.Edit:
		return addresses(inList(inList(inList(found, v.Items), v.Rows), v.Cells), v.Settings)
	case api.Splice:
		return addresses(addresses(found, v.Old), v.New)
	case api.Piece:
		return addresses(addresses(inList(inList(inList(found, v.Items), v.Rows), v.Cells), v.Head), v.Settings)
	case api.Settings:
		return inList(inList(inList(inList(found, v.Styles), v.Lists), v.Comments), v.Vars)
	case api.Style:
		return inList(found, v.Props)
	case api.List:
		return inList(found, v.Levels)
	case []api.Prop:
		return inList(found, v)
	case []api.Item:
		return inList(found, v)
	case []api.Row:
		return inList(found, v)
	case []api.Cell:
		return inList(found, v)
	case []api.Edit:
		return inList(found, v)
	case []api.Splice:
		return inList(found, v)
	case []api.Rev:
		return inList(found, v)
	case []api.Layer:
		return inList(found, v)
	case []api.Range:
		return inList(found, v)
	case []int:
		return inList(found, v)
	case []bool:
		return inList(found, v)
	case api.Decision:
		return inList(inList(found, v.Accept), v.Reject)
	case api.Item:
		return inList(inList(addresses(found, v.Head), v.Flow), v.Rows)
	case api.Row:
		return inList(addresses(found, v.Head), v.Cells)
	case api.Cell:
		return inList(addresses(found, v.Head), v.Flow)
	case api.Head:
		return inList(inList(inList(found, v.Props), v.Marks.Dels), v.Marks.Layers)
	case api.Prop, api.Del, api.Layer, api.Rev, api.Level, api.Comment, api.Var, api.Range, int, bool:
		return found
	}
	panic("samples: the slices of this type are not known")
}

func inList[T any](found []any, l []T) []any {
	full := l[:cap(l)]
	for i := range full {
		found = append(found, &full[i])
	}
	for i := range l {
		found = addresses(found, l[i])
	}
	return found
}
