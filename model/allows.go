package model

import (
	"bytes"

	"shale/api"
	"shale/disk"
)

// Allows tells whether the disk as it should be may give that answer to that step.
func (m *Model) Allows(s disk.Step, a disk.Answer) bool {
	judges := map[int]func(m *Model, s disk.Step, a disk.Answer) bool{
		disk.Read:    (*Model).allowsRead,
		disk.Write:   (*Model).allowsWrite,
		disk.Trim:    (*Model).allowsTrim,
		disk.Flush:   (*Model).allowsFlush,
		disk.Remount: (*Model).allowsQuiet,
		disk.Point:   (*Model).allowsPoint,
		disk.Cut:     (*Model).allowsQuiet,
	}
	judge, ok := judges[s.Kind]
	return ok && judge(m, s, a)
}

func (m *Model) allowsRead(s disk.Step, a disk.Answer) bool {
	data, ok := m.Read(s.A)
	if !ok {
		return a.Err == api.ErrNumber && len(a.Data) == 0
	}
	return a.Err == nil && bytes.Equal(a.Data, data)
}

func (m *Model) allowsWrite(s disk.Step, a disk.Answer) bool { return changes(m.may(s.A, s.Data), a) }

func (m *Model) allowsTrim(s disk.Step, a disk.Answer) bool {
	return changes(m.may(s.A, make([]byte, m.size)), a)
}

func (m *Model) allowsFlush(_ disk.Step, a disk.Answer) bool { return changes(nil, a) }

func (m *Model) allowsPoint(_ disk.Step, a disk.Answer) bool {
	return changes(nil, a) || a.Err == api.ErrMany && len(a.Data) == 0
}

// allowsQuiet is of the steps that say nothing.
func (m *Model) allowsQuiet(_ disk.Step, a disk.Answer) bool {
	return a.Err == nil && len(a.Data) == 0
}

// changes tells whether a step that lays something may answer a, where it should answer want.
func changes(want error, a disk.Answer) bool {
	refused := want == nil && (a.Err == api.ErrFull || a.Err == api.ErrReadOnly)
	return (a.Err == want || refused) && len(a.Data) == 0
}
