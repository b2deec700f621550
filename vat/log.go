package vat

import (
	"seneschal/api"
	"seneschal/entry"
)

// batchBytes is how many bytes can be forced at once.
const batchBytes = api.MaxBatch * api.Load

// roll is the transactions that were committed since the store was opened.
type roll struct {
	sure  []api.Txn
	known map[api.Txn]struct{} // those that are sure
	hopes []api.Txn            // those whose Commits wait
}

func newRoll() roll {
	return roll{known: map[api.Txn]struct{}{}}
}

// settle: what waited is sure.
func (r *roll) settle() {
	for _, t := range r.hopes {
		if _, twice := r.known[t]; !twice {
			r.known[t] = struct{}{}
			r.sure = append(r.sure, t)
		}
	}
	r.hopes = nil
}

// entries are all that the log has.
func (v *Vat) entries() []api.Entry {
	var list []api.Entry
	for _, x := range v.log.From(0) {
		list = append(list, x)
	}
	return list
}

// force makes all entries sure; ErrDown. It is told at once which transactions are committed by that, whatever becomes of the call.
func (v *Vat) force() api.Errno {
	if e := v.log.Force(); e != api.OK {
		return e
	}
	v.waits = 0
	v.roll.settle()
	return api.OK
}

// affords tells whether there is room for entries, and for the undoing of what isn't at its end behind them.
func (v *Vat) affords(list []api.Entry) bool {
	cost := 0
	trial := v.debts.trial()
	for _, x := range list {
		cost += entry.Cost(x)
		trial.take(x)
	}
	return v.room-cost >= trial.due
}

// enter adds entries to the log; ErrFull, ErrDown. A list is forced at once, if that can be: were it cut off in its midst, there might be too little room for its undoing.
func (v *Vat) enter(list []api.Entry) api.Errno {
	if v.waits+bytesOf(list) > batchBytes {
		if e := v.force(); e != api.OK {
			return e
		}
	}
	for {
		n := v.part(list)
		for _, x := range list[:n] {
			if e := v.append(x); e != api.OK {
				return e
			}
		}
		list = list[n:]
		if len(list) == 0 {
			return api.OK
		}
		if e := v.force(); e != api.OK {
			return e
		}
	}
}

// part: how many of a list's entries are forced at once: of one that is too long as many as can be, but so that what they leave can be undone with the room that they leave, if there is such a place.
func (v *Vat) part(list []api.Entry) int {
	if bytesOf(list) <= batchBytes {
		return len(list)
	}
	n, safe, bytes := 0, 0, 0
	trial := v.debts.trial()
	for {
		bytes += bytesOf(list[n : n+1])
		if bytes > batchBytes {
			break
		}
		trial.take(list[n])
		n++
		if v.log.Room()-sectorsOf(bytes) >= trial.due {
			safe = n
		}
	}
	if safe > 0 {
		return safe
	}
	return n
}

func (v *Vat) append(x api.Entry) api.Errno {
	if _, e := v.log.Append(x); e != api.OK {
		return e
	}
	v.waits += bytesOf([]api.Entry{x})
	v.debts.take(x)
	if x.Kind == api.Commit {
		v.roll.hopes = append(v.roll.hopes, x.Txn)
	}
	return api.OK
}

// bytesOf: how many bytes of the log entries are.
func bytesOf(list []api.Entry) int {
	n := 0
	for _, x := range list {
		s, _ := entry.Encode(x)
		n += len(s)
	}
	return n
}

// sectorsOf: how many sectors so many bytes of a batch need.
func sectorsOf(bytes int) int {
	return (bytes + api.Load - 1) / api.Load
}
