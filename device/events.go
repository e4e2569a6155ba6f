package device

import (
	"slots/api"
	"slots/flash"
	"slots/net"
	"slots/record"
)

// outcome is what an event comes to, if the power does not fail: the pages that it writes, what the device is like behind them, and what is answered.
type outcome struct {
	writes []flash.Write
	on     bool
	memory memory
	err    api.Errno
	text   string
	ask    int
}

// Do plays an event.
func (x *Device) Do(e api.Event) api.Reply {
	err := x.refusal(e.Kind)
	if err != api.OK {
		return failed(err)
	}
	o := x.outcomeOf(e)
	lasts := x.flash.WriteAll(o.writes, e.Cut, e.Torn)
	if !lasts {
		x.on = false
		x.memory = memory{}
		return failed(api.ErrCut)
	}
	x.on = o.on
	x.memory = o.memory
	if o.err != api.OK {
		return failed(o.err)
	}
	s := x.Status()
	return api.Reply{Version: s.Version, Text: o.text, Ask: o.ask}
}

// failed is the answer with an error.
func failed(err api.Errno) api.Reply {
	return api.Reply{Err: err, Ask: -1}
}

// refusal is why an event of some kind may not come now.
func (x *Device) refusal(kind int) api.Errno {
	if kind < api.Off || kind > api.Confirm {
		return api.ErrKind
	}
	if x.on && kind == api.Boot {
		return api.ErrOn
	}
	if !x.on && kind != api.Boot {
		return api.ErrOff
	}
	return api.OK
}

// outcomeOf is what an event comes to that may come now.
func (x *Device) outcomeOf(e api.Event) outcome {
	r := x.record()
	switch e.Kind {
	case api.Off:
		return outcome{ask: -1}
	case api.Boot:
		return boot(r)
	case api.Tick:
		return x.tick(r)
	case api.Infer:
		return x.infer(r, e.Text)
	case api.Offer:
		return x.offer(r, e.Text)
	case api.Chunk:
		return x.chunk(r, e.N, e.Text)
	}
	return x.confirm(r)
}

// still is the outcome of an event that does nothing.
func (x *Device) still() outcome {
	return outcome{on: x.on, memory: x.memory, ask: -1}
}

// fault is the outcome of an event that does nothing but answer an error.
func (x *Device) fault(err api.Errno) outcome {
	o := x.still()
	o.err = err
	return o
}

// recorded is the outcome of an event that does nothing but write a record.
func (x *Device) recorded(r record.Record) outcome {
	o := x.still()
	o.writes = []flash.Write{written(r)}
	return o
}

// boot begins anew with what the flash holds; on trial that costs a try, so that an image that does not last is given up.
func boot(r record.Record) outcome {
	o := outcome{on: true, memory: booted(), ask: -1}
	if r.Phase == api.Trial {
		o.writes = []flash.Write{written(r.Tried())}
	}
	return o
}

// tick lets time go by.
func (x *Device) tick(r record.Record) outcome {
	switch r.Phase {
	case api.Trial:
		return x.older(r)
	case api.Fetching:
		return x.fetch(r)
	}
	return x.still()
}

// older is a tick of a trial, which ends when its window is over.
func (x *Device) older(r record.Record) outcome {
	age := x.memory.age + 1
	o := x.still()
	if age >= api.Window {
		o = x.recorded(r.Steady())
	}
	o.memory.age = age
	return o
}

// infer asks the image that is served.
func (x *Device) infer(r record.Record, in string) outcome {
	image := x.image(r, r.Served())
	s, err := net.Answer(image, in)
	if err != api.OK {
		return x.fault(err)
	}
	o := x.still()
	o.text = s
	return o
}

// confirm keeps the image on trial.
func (x *Device) confirm(r record.Record) outcome {
	if r.Phase != api.Trial {
		return x.fault(api.ErrIdle)
	}
	return x.recorded(r.Confirmed())
}
