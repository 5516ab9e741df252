package store

import (
	"atlas/api"
	"atlas/shape"
)

// draft is what the next version may become.
type draft struct {
	version int
	lives   []life
}

// edit does one edit of a batch.
func (d *draft) edit(e api.Edit) api.Errno {
	switch e.Op {
	case api.Put:
		return d.put(e.F)
	case api.Drop:
		return d.drop(e.F.Id)
	}
	return api.ErrEdit
}

func (d *draft) put(f api.Feature) api.Errno {
	if shape.Check(f) != api.OK {
		return api.ErrShape
	}
	replaced := d.end(f.Id)
	if !replaced && d.count() >= api.MaxFeatures {
		return api.ErrFull
	}
	d.lives = append(d.lives, life{f: f, came: d.version})
	return api.OK
}

func (d *draft) drop(id int) api.Errno {
	dropped := d.end(id)
	if !dropped {
		return api.ErrNone
	}
	return api.OK
}

// end ends the life of the feature with an Id, and tells whether there was one.
func (d *draft) end(id int) bool {
	for i := 0; i < len(d.lives); i++ {
		if d.lives[i].went == 0 && d.lives[i].f.Id == id {
			d.lives[i].went = d.version
			return true
		}
	}
	return false
}

// count gives how many features there are.
func (d *draft) count() int {
	n := 0
	for i := 0; i < len(d.lives); i++ {
		if d.lives[i].went == 0 {
			n++
		}
	}
	return n
}
