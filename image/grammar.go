package image

import (
	"slices"

	"ferry/api"
	"ferry/wire"
)

// row is a line of the order in which records stand: one record with that tag, or any number of them.
type row struct {
	tag  int
	many bool
}

// order: the rows of an image of that kind; none, if there is no such kind.
func order(kind int) []row {
	switch kind {
	case api.ImageFull:
		return []row{{TagFrame, false}, {TagProc, true}, {TagReady, false}, {TagTimers, false}, {TagEvents, false}, {TagSems, false}, {TagPort, true}, {TagPage, true}}
	case api.ImageDelta:
		return []row{{TagFrame, false}, {TagBase, false}, {TagProc, true}, {TagReady, false}, {TagTimers, false}, {TagEvents, false}, {TagSems, false}, {TagPort, true}, {TagPatch, true}}
	}
	return nil
}

// Grammar: may the records stand so in an image of the kind?
func Grammar(kind int, recs []wire.Rec) error {
	rows := order(kind)
	if len(rows) == 0 {
		return api.ErrKind
	}
	for i, r := range recs {
		rows = pass(rows, r.Tag)
		if len(rows) == 0 || rows[0].tag != r.Tag {
			return placed(api.ErrTag, i)
		}
		if !rows[0].many {
			rows = rows[1:]
		}
	}
	if slices.ContainsFunc(rows, func(x row) bool { return !x.many }) {
		return placed(api.ErrShort, len(recs))
	}
	return nil
}

// pass goes over the rows that may end here, up to the one with that tag.
func pass(rows []row, tag int) []row {
	for len(rows) > 0 && rows[0].many && rows[0].tag != tag {
		rows = rows[1:]
	}
	return rows
}
