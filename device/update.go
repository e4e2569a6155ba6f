package device

import (
	"slots/api"
	"slots/delta"
	"slots/flash"
	"slots/manifest"
	"slots/net"
	"slots/record"
	"slots/sum"
)

// offer begins to fetch what a manifest tells of.
func (x *Device) offer(r record.Record, text string) outcome {
	if r.Phase == api.Trial {
		return x.fault(api.ErrBusy)
	}
	m, ok := manifest.Parse(x.key, text)
	if !ok {
		return x.fault(api.ErrManifest)
	}
	kept := r.Slot(r.Kept)
	if m.Version <= kept.Version || m.Base != kept.Version {
		return x.fault(api.ErrVersion)
	}
	var l []flash.Write
	if r.Phase == api.Fetching {
		// Else a manifest that is half written would pass for the one of which chunks are there.
		r = r.Steady()
		l = append(l, written(r))
	}
	l = append(l, flash.Spread(api.ManifestPage, manifestPages, text)...)
	l = append(l, written(r.Fetching()))
	return x.eager(l)
}

// eager is the outcome of an event that writes pages, and behind which the next tick asks for a chunk.
func (x *Device) eager(l []flash.Write) outcome {
	o := x.still()
	o.writes = l
	o.memory.wait = 0
	o.memory.next = 1
	return o
}

// chunk takes a chunk of the patch.
func (x *Device) chunk(r record.Record, n int, text string) outcome {
	if r.Phase != api.Fetching {
		return x.fault(api.ErrIdle)
	}
	m := x.manifest()
	if !m.Tells(n, text) {
		return x.fault(api.ErrChunk)
	}
	if r.Has(n) {
		return x.still()
	}
	page := flash.Write{Page: api.ChunkPage + n, Text: text}
	return x.eager([]flash.Write{page, written(r.With(n))})
}

// fetch is a tick while chunks come: it asks for one that is not there, ever more seldom, or installs.
func (x *Device) fetch(r record.Record) outcome {
	m := x.manifest()
	wanted := r.Wanted(m.Chunks())
	if wanted < 0 {
		return x.install(r, m)
	}
	o := x.still()
	if o.memory.wait > 0 {
		o.memory.wait--
	}
	if o.memory.wait > 0 {
		return o
	}
	o.ask = wanted
	o.memory.wait = o.memory.next
	o.memory.next = longer(o.memory.next)
	return o
}

// longer is the wait behind a wait.
func longer(wait int) int {
	if 2*wait > api.MaxWait {
		return api.MaxWait
	}
	return 2 * wait
}

// install puts the new image on trial, or gives it up.
func (x *Device) install(r record.Record, m manifest.Manifest) outcome {
	image, err := x.built(r, m)
	if err != api.OK {
		o := x.recorded(r.Steady())
		o.err = err
		return o
	}
	slot := record.Slot{Size: len(image), Version: m.Version}
	o := x.still()
	o.writes = flash.Spread(slotPage(r.Other()), flash.Needed(len(image)), image)
	o.writes = append(o.writes, written(r.Trying(slot)))
	o.memory.age = 0
	return o
}

// built is the new image, if it is the one that the manifest tells of, and answers its example.
func (x *Device) built(r record.Record, m manifest.Manifest) (string, api.Errno) {
	base := x.image(r, r.Kept)
	patch := x.flash.Text(api.ChunkPage, m.PatchSize)
	image, ok := delta.Apply(base, patch, m.ImageSize)
	if !ok {
		return "", api.ErrPatch
	}
	if sum.Of(image) != m.ImageSum {
		return "", api.ErrSum
	}
	err := net.Check(image)
	if err != api.OK {
		return "", err
	}
	if !m.Passed(image) {
		return "", api.ErrTest
	}
	return image, api.OK
}
