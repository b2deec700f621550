package vat

import (
	"slices"

	"seneschal/api"
	"seneschal/entry"
	"seneschal/patch"
)

// frame is a page at hand.
type frame struct {
	page  api.Page
	entry int // the number of the last entry that changed it; 0: it is as at home
}

func (v *Vat) has(n int) bool {
	return n >= 0 && n < v.pages
}

// wrong tells of what is no entry of this store.
func (v *Vat) wrong(x api.Entry) bool {
	return !entry.Good(x) || changing(x) && !v.has(x.Page)
}

// look: a page, at hand or not.
func (v *Vat) look(n int) (frame, api.Errno) {
	if f, here := v.pool.Get(n); here {
		return f, api.OK
	}
	p, e := v.homes.Read(n)
	if e != api.OK {
		return frame{}, e
	}
	return frame{page: p}, api.OK
}

// keep has a page at hand. If another one must leave that was changed, it is written home, its entries ahead of it; ErrDown.
func (v *Vat) keep(n int, f frame) api.Errno {
	out, _ := v.pool.Put(n, f) // it is done, since nothing is pinned
	if out.Val.entry == 0 {
		return api.OK
	}
	if out.Val.entry > v.log.Sure() {
		if e := v.force(); e != api.OK {
			return e
		}
	}
	return v.home([]api.Leaf{{N: out.Key, Page: out.Val.page}})
}

// home writes pages home; all their entries are sure; ErrDown.
func (v *Vat) home(list []api.Leaf) api.Errno {
	for some := range slices.Chunk(list, api.Twins) {
		if e := v.homes.Write(some); e != api.OK {
			return e
		}
	}
	return api.OK
}

// bringHome writes home what was changed; all entries are sure; ErrDown.
func (v *Vat) bringHome() api.Errno {
	var list []api.Leaf
	for n, f := range v.pool.All() {
		if f.entry > 0 {
			list = append(list, api.Leaf{N: n, Page: f.page})
		}
	}
	if e := v.home(list); e != api.OK {
		return e
	}
	for _, x := range list {
		v.pool.Put(x.N, frame{page: x.Page})
	}
	return api.OK
}

// behind: the pages that a list changes, as they are behind it; ErrOld, layer 5's errors. Nothing is kept of that yet.
func (v *Vat) behind(list []api.Entry) (map[int]frame, api.Errno) {
	changed := map[int]frame{}
	for i, x := range list {
		if !changing(x) {
			continue
		}
		f, known := changed[x.Page]
		if !known {
			var e api.Errno
			if f, e = v.look(x.Page); e != api.OK {
				return nil, e
			}
		}
		if x.Lsn <= f.page.Lsn {
			return nil, api.ErrOld
		}
		p, _, e := patch.Redo(f.page, x)
		if e != api.OK {
			return nil, e
		}
		changed[x.Page] = frame{page: p, entry: v.log.Last() + 1 + i}
	}
	return changed, api.OK
}

// changing tells whether an entry is of the kinds that change a page.
func changing(x api.Entry) bool {
	return x.Kind == api.Change || x.Kind == api.Undo
}

// another: the same image in new memory.
func another(p api.Page) api.Page {
	return api.Page{Lsn: p.Lsn, Slots: slices.Clone(p.Slots)}
}
