// Package device: a device with its flash, and the events that it plays.
package device

import (
	"slots/api"
	"slots/flash"
	"slots/manifest"
	"slots/record"
)

const manifestPages = api.ChunkPage - api.ManifestPage

// Device is a device. Its key and its flash outlive a failure of the power, the rest does not.
type Device struct {
	key    string
	flash  flash.Flash
	on     bool
	memory memory
}

// memory is what is lost when the device is off: how many ticks to wait with the next asking, how many from there on, and the age of a trial.
type memory struct {
	wait, next, age int
}

// booted is the memory of a device that has just gone on.
func booted() memory {
	return memory{next: 1}
}

// New is a device that is on, with an image of some version in slot 0.
func New(key, image string, version int) Device {
	x := Device{key: key, on: true, memory: booted()}
	l := flash.Spread(slotPage(0), flash.Needed(len(image)), image)
	r := record.First(record.Slot{Size: len(image), Version: version})
	l = append(l, written(r))
	x.flash.WriteAll(l, -1, 0)
	return x
}

// written is the page that is written for a record.
func written(r record.Record) flash.Write {
	return flash.Write{Page: r.Page, Text: r.Text()}
}

// slotPage is the first page of a slot.
func slotPage(slot int) int {
	return api.SlotPage + slot*api.SlotPages
}

// record is the record that counts.
func (x *Device) record() record.Record {
	first := x.flash.Page(0)
	second := x.flash.Page(1)
	return record.Standing(first, second)
}

// manifest is the manifest that is stored, in the phase fetching.
func (x *Device) manifest() manifest.Manifest {
	s := x.flash.Text(api.ManifestPage, manifestPages*api.PageSize)
	return manifest.Stored(s)
}

// image is the image in a slot.
func (x *Device) image(r record.Record, slot int) string {
	known := r.Slot(slot)
	return x.flash.Text(slotPage(slot), known.Size)
}

// Status tells what can be seen of the device.
func (x *Device) Status() api.Status {
	if !x.on {
		return api.Status{}
	}
	r := x.record()
	served := r.Slot(r.Served())
	kept := r.Slot(r.Kept)
	s := api.Status{On: true, Phase: r.Phase, Slot: r.Served(), Version: served.Version, Kept: kept.Version, Tries: r.Tries}
	if r.Phase == api.Fetching {
		m := x.manifest()
		s.Missing = r.Missing(m.Chunks())
	}
	return s
}

// Page is the bytes of a page; empty if there is no such page.
func (x *Device) Page(i int) string {
	return x.flash.Page(i)
}
