package samples

import (
	"obelus/api"
	"obelus/document"
	"obelus/resolve"
	"obelus/track"
)

// Edited returns a document behind those of a number of edits that can be tracked, by different revisions.
func Edited(pick func(n int) int, d api.Document, count int) api.Document {
	for range count {
		e := Edit(pick, resolve.Final(d))
		if e.Kind == api.EditMove {
			e.Fresh = document.Fresh(d)
		}
		rev := Revs()[pick(len(Revs()))]
		if next, err := track.Track(d, e, rev); err == api.OK {
			d = next
		}
	}
	return d
}
