package desk

import (
	"testing"

	"seneschal/api"
)

// Nobody begins 2^30 transactions in a test: it is told here that they have begun.
func TestTransactionsOfAnEpoch(t *testing.T) {
	d := New(1, 1, api.Config{Pages: 1, Cache: 1})
	d.begun = api.MaxTxn - 1
	d.Call(api.Call{Kind: api.CallBegin})
	d.Hear(api.Msg{Kind: api.MsgRoom})
	if r, ok := d.Late(); r != (api.Reply{Code: api.ErrLogFull}) || !ok {
		t.Fatal(r, ok)
	}
	d.Call(api.Call{Kind: api.CallBegin})
	d.Hear(api.Msg{Kind: api.MsgRoom, N: 2})
	if r, ok := d.Late(); r != (api.Reply{Txn: api.Txn{Client: 1, Epoch: 1, N: 1 << 30}}) || !ok {
		t.Fatal(r, ok)
	}
	if r, _ := d.Call(api.Call{Kind: api.CallRollback}); r.Code != api.OK {
		t.Fatal(r)
	}
	for range 2 {
		if r, ok := d.Call(api.Call{Kind: api.CallBegin}); r != (api.Reply{Code: api.ErrLast}) || !ok {
			t.Fatal(r, ok)
		}
	}
	d.Reset(2)
	d.Call(api.Call{Kind: api.CallBegin})
	d.Hear(api.Msg{Kind: api.MsgRoom, N: 2})
	if r, ok := d.Late(); r != (api.Reply{Txn: api.Txn{Client: 1, Epoch: 2, N: 1}}) || !ok {
		t.Fatal(r, ok)
	}
}
