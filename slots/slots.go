// Package slots: small nets on a device that is brought up to date without ever being lost: see DOC.md.
package slots

import (
	"slots/api"
	"slots/compile"
	"slots/delta"
	"slots/device"
	"slots/net"
	"slots/straight"
	"slots/sum"
)

// Device is a device with its flash.
type Device struct {
	inner device.Device
}

// Sum is a check on some bytes (P2).
func Sum(s string) int { return sum.Of(s) }

// Check tells whether some bytes are an image (P3).
func Check(image string) api.Errno { return net.Check(image) }

// Eval tells what a net answers (P4).
func Eval(image string, in string) (string, api.Errno) { return net.Answer(image, in) }

// Compile turns a net into code (P6).
func Compile(image string) (string, api.Errno) {
	n, ok := net.Parse(image)
	if !ok {
		return "", api.ErrImage
	}
	c := compile.Of(n)
	return c.Text(), api.OK
}

// Exec runs code (P5).
func Exec(code string, in string) (string, api.Errno) {
	c, ok := straight.Parse(code)
	if !ok {
		return "", api.ErrCode
	}
	if !c.Takes(in) {
		return "", api.ErrInput
	}
	return c.Exec(in), api.OK
}

// Patch puts some bytes together out of others (P7).
func Patch(base string, patch string, n int) (string, api.Errno) {
	s, ok := delta.Apply(base, patch, n)
	if !ok {
		return "", api.ErrPatch
	}
	return s, api.OK
}

// Diff tells how some bytes come out of others (P8).
func Diff(base string, now string) (string, api.Errno) {
	if len(base) > api.MaxImage || len(now) > api.MaxImage {
		return "", api.ErrPatch
	}
	return delta.Between(base, now), api.OK
}

// New makes a device (P9).
func New(key string, image string, version int) (*Device, api.Errno) {
	if len(key) > api.MaxKey {
		return nil, api.ErrKey
	}
	err := net.Check(image)
	if err != api.OK {
		return nil, err
	}
	if version < 0 || version > api.MaxVersion {
		return nil, api.ErrVersion
	}
	return &Device{inner: device.New(key, image, version)}, api.OK
}

// Do plays an event (P11 to P18).
func (x *Device) Do(e api.Event) api.Reply { return x.inner.Do(e) }

// Status tells what can be seen of the device (P10).
func (x *Device) Status() api.Status { return x.inner.Status() }

// Page tells what stands in a page of the flash (P10).
func (x *Device) Page(i int) string { return x.inner.Page(i) }
