package vat

import (
	"seneschal/api"
	"seneschal/mend"
	"seneschal/past"
	"seneschal/plate"
	"seneschal/ring"
	"seneschal/scroll"
	"seneschal/twin"
)

// Behind the tops stand the twins and the homes of the pages, and behind those the log.
const twinsAt = api.Tops

// lastGen is the greatest generation that a store can have.
const lastGen = 1 << 20

// Need: how many sectors a store has; 0: there can be no such.
func Need(c api.Config) int {
	if c.Pages < 1 || c.Pages > api.MaxPages || c.Log < api.MinLog || c.Log > api.MaxLog || c.Pool < 1 || c.Pool > api.MaxCache {
		return 0
	}
	return logAt(c) + c.Log // the greatest of each are fewer than MaxSectors
}

// Open: the store of a plate, and the transactions whose Commit its log has; ErrNil, ErrArg, ErrDown, ErrForm, ErrLast, those of layers 8 and 18, ErrFull.
func Open(d *plate.Plate, c api.Config) (*Vat, []api.Txn, api.Errno) {
	switch need := Need(c); {
	case d == nil:
		return nil, nil, api.ErrNil
	case need == 0 || need > d.Sectors():
		return nil, nil, api.ErrArg
	case d.Down():
		return nil, nil, api.ErrDown
	}
	v := &Vat{plate: d, life: d.Life(), pages: c.Pages, pool: ring.New[int, frame](c.Pool), roll: newRoll()}
	list, e := v.begin(c)
	if e != api.OK {
		return nil, nil, e
	}
	done := past.Read(list, 1).Done
	switch e := v.restart(list); e {
	case api.OK:
		return v, done, api.OK
	case api.ErrDown:
		return nil, done, api.ErrDown
	default:
		return nil, nil, e
	}
}

func logAt(c api.Config) int {
	return twinsAt + api.Twins + c.Pages
}

// begin finds what the plate has, and answers what the log has. The new generation is sure ahead of all else, so that none is used twice.
func (v *Vat) begin(c api.Config) ([]api.Entry, api.Errno) {
	old, e := findTop(v.plate)
	if e != api.OK {
		return nil, e
	}
	mark := old.mark
	mark.Gen++
	if mark.Gen > lastGen || old.turn > lastTurn {
		return nil, api.ErrLast
	}
	v.top = old
	if e := v.writeTop(mark); e != api.OK {
		return nil, e
	}
	v.homes, e = twin.Open(v.plate, twinsAt, api.Twins, c.Pages)
	if e != api.OK {
		return nil, e
	}
	var list []api.Entry
	v.log, list, e = scroll.Open(v.plate, logAt(c), c.Log, mark)
	return list, e
}

// restart brings the log and the pages together, and begins an empty log.
func (v *Vat) restart(list []api.Entry) api.Errno {
	v.debts = debtsOf(list)
	pages, e := v.Leaves()
	if e != api.OK {
		return e
	}
	added, mended, e := mend.Restart(list, pages)
	if e != api.OK {
		return e
	}
	if e := v.enter(added); e != api.OK {
		return e
	}
	if e := v.force(); e != api.OK {
		return e
	}
	if e := v.home(newer(mended, pages)); e != api.OK {
		return e
	}
	return v.cut(v.log.Last() + 1)
}

// newer are those of some pages that were changed since they were as others, in the same order, say.
func newer(pages, old []api.Leaf) []api.Leaf {
	var list []api.Leaf
	for i, x := range pages {
		if x.Page.Lsn > old[i].Page.Lsn {
			list = append(list, x)
		}
	}
	return list
}
