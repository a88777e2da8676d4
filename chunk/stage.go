package chunk

import (
	"slices"
	"strings"

	"ferry/api"
)

// Stage is the pieces of one image that have come: "" where one is missing.
type Stage struct {
	Part, Stage, Total int
	Xid                api.Xid
	Pieces             []string
}

// Cut: the image's pieces as notes.
func Cut(part int, x api.Xid, stage int, image []byte) ([]api.Note, error) {
	if !isName(part, x) || !isStage(stage) {
		return nil, api.ErrArg
	}
	if len(image) == 0 || len(image) > api.MaxImage {
		return nil, api.ErrSize
	}
	notes := make([]api.Note, (len(image)+api.ChunkSize-1)/api.ChunkSize)
	for i := range notes {
		begin := i * api.ChunkSize
		end := min(begin+api.ChunkSize, len(image))
		notes[i] = api.Note{Kind: api.MsgChunk, Part: part, Xid: x, Stage: stage, Index: i, Total: len(notes), Data: string(image[begin:end])}
	}
	return notes, nil
}

// Good: is the stage in form?
func Good(s Stage) bool {
	if !isName(s.Part, s.Xid) || !isStage(s.Stage) || !isTotal(s.Total) || len(s.Pieces) != s.Total {
		return false
	}
	for i, piece := range s.Pieces {
		if piece != "" && !isPiece(piece, i, s.Total) {
			return false
		}
	}
	return true
}

// Begin: the stage with the first piece that came.
func Begin(n api.Note) (Stage, error) {
	if err := Check(n); err != nil {
		return Stage{}, err
	}
	if n.Kind != api.MsgChunk {
		return Stage{}, api.ErrKind
	}
	s := Stage{Part: n.Part, Stage: n.Stage, Total: n.Total, Xid: n.Xid, Pieces: make([]string, n.Total)}
	s.Pieces[n.Index] = n.Data
	return s, nil
}

// Add: the stage with the piece; is it a new one?
func Add(s Stage, n api.Note) (Stage, bool, error) {
	if !Good(s) {
		return Stage{}, false, api.ErrState
	}
	own, err := Begin(n)
	if err != nil {
		return Stage{}, false, err
	}
	if own.Part != s.Part || own.Xid != s.Xid || own.Stage != s.Stage || own.Total != s.Total {
		return Stage{}, false, api.ErrBase
	}
	was := s.Pieces[n.Index]
	if was != "" && was != n.Data {
		return Stage{}, false, api.ErrBusy
	}
	s.Pieces = slices.Clone(s.Pieces)
	s.Pieces[n.Index] = n.Data
	return s, was == "", nil
}

// Missing: the numbers of the pieces that haven't come, rising.
func Missing(s Stage) ([]int, error) {
	if !Good(s) {
		return nil, api.ErrState
	}
	var missing []int
	for i, piece := range s.Pieces {
		if piece == "" {
			missing = append(missing, i)
		}
	}
	return missing, nil
}

// Whole: the image, if all pieces have come.
func Whole(s Stage) ([]byte, bool, error) {
	if !Good(s) {
		return nil, false, api.ErrState
	}
	if slices.Contains(s.Pieces, "") {
		return nil, false, nil
	}
	return []byte(strings.Join(s.Pieces, "")), true, nil
}
