package kernel

import (
	"signalbox/api"
	"signalbox/ceiling"
	"signalbox/count"
	"signalbox/flags"
	"signalbox/mailbox"
)

// objects are what operations call.
type objects struct {
	boxes  *mailbox.Boxes
	groups *flags.Groups
	counts *count.Counts
	locks  *ceiling.Locks
}

// objectsOf are a configuration's, as they are at first.
func objectsOf(c api.Config) objects {
	return objects{
		boxes:  mailbox.New(c.Mailboxes),
		groups: flags.New(c.Groups),
		counts: count.New(c.Counts),
		locks:  ceiling.New(c.Ceilings),
	}
}

// call does what an operation of who does to its object, and makes the record's part of it; false if it is of none.
func (s *objects) call(o api.Op, who int) (api.Record, bool) {
	r := api.Record{Kind: api.RecCall, Op: o.Kind}
	switch o.Kind {
	case api.OpLock:
		r.Code = s.locks.Lock(o.A, who)
	case api.OpUnlock:
		r.Code = s.locks.Unlock(o.A, who)
	case api.OpSend:
		r.Code = s.boxes.Send(o.A, o.B)
	case api.OpRecv:
		r.Value, r.Code = s.boxes.Recv(o.A)
	case api.OpSet:
		r.Value, r.Code = s.groups.Set(o.A, o.B)
	case api.OpClear:
		r.Value, r.Code = s.groups.Clear(o.A, o.B)
	case api.OpTest:
		r.Value, r.Code = s.test(o.A, o.B)
	case api.OpGive:
		r.Value, r.Code = s.counts.Give(o.A)
	case api.OpTake:
		r.Value, r.Code = s.counts.Take(o.A)
	default:
		return api.Record{}, false
	}
	return r, true
}

// test is 1 if all flags of the mask are up, else 0.
func (s *objects) test(i, mask int) (int, api.Errno) {
	up, e := s.groups.Test(i, mask, true)
	if up {
		return 1, e
	}
	return 0, e
}
