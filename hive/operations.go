package hive

import (
	"skep/api"
	"skep/book"
	"skep/codec"
)

// operation is what is done, and told, of one kind of operation.
type operation func(api.Op) ([]api.Tele, api.Errno)

// operations is what there is for each kind.
func (h *Hive) operations() map[int]operation {
	return map[int]operation{
		api.OpTick:   h.tick,
		api.OpOrder:  h.order,
		api.OpDrain:  h.drain,
		api.OpStop:   h.stop,
		api.OpResume: h.resume,
		api.OpCheck:  h.check,
	}
}

// tick lets a tick go by.
func (h *Hive) tick(api.Op) ([]api.Tele, api.Errno) {
	h.now = min(h.now+1, api.MaxTicks)
	var told []api.Tele
	if !h.state.Held {
		told = h.work()
	}
	return append(told, h.link.Due(h.now)...), api.OK
}

// order takes an order.
func (h *Hive) order(o api.Op) ([]api.Tele, api.Errno) {
	// Asked ahead of the event, which has to name the port.
	port, e := book.Admit(h.conf, h.state, o.A, o.B)
	if e != api.OK {
		return nil, e
	}
	return nil, h.happen(api.Event{Kind: api.EvOrder, A: o.A, B: port})
}

// drain has a port's bin brought back.
func (h *Hive) drain(o api.Op) ([]api.Tele, api.Errno) {
	// Asked ahead of the event: what the book says counts for more than that the journal's numbers have come to their end.
	if _, e := book.Drain(h.conf, h.state, o.A); e != api.OK {
		return nil, e
	}
	return nil, h.happen(api.Event{Kind: api.EvDrain, A: o.A})
}

// stop holds the hive, and tells all robots so.
func (h *Hive) stop(api.Op) ([]api.Tele, api.Errno) {
	if e := h.happen(api.Event{Kind: api.EvStop}); e != api.OK {
		return nil, e
	}
	// What waited is of an older epoch, and must not be sent again.
	h.link.Clear()
	var told []api.Tele
	for i := range h.state.Robots {
		told = append(told, h.send(api.Tele{Kind: api.TeStop, Robot: i, Epoch: h.state.Epoch}))
	}
	return told, api.OK
}

// resume lets the hive go on.
func (h *Hive) resume(api.Op) ([]api.Tele, api.Errno) {
	return nil, h.happen(api.Event{Kind: api.EvResume})
}

// check puts the state in the place of all that the journal has.
func (h *Hive) check(api.Op) ([]api.Tele, api.Errno) {
	return nil, h.store.Check(codec.PutState(h.state))
}

// send sends a telegram to a robot, that waits for its answer.
func (h *Hive) send(t api.Tele) api.Tele {
	// A go-ahead or a stop for a robot that there is: link refuses nothing else.
	sent, _ := h.link.Send(t, h.now)
	return sent
}
