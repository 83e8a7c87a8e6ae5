package whole

import (
	"math"
	"reflect"
	"testing"

	"goit/bbr"
	"goit/bound"
	"goit/bucket"
	"goit/clock"
	"goit/conf"
	"goit/cycle"
	"goit/filt"
	"goit/fix"
	"goit/gain"
	"goit/jitter"
	"goit/ledger"
	"goit/link"
	"goit/loop"
	"goit/meter"
	"goit/mode"
	"goit/pacer"
	"goit/queue"
	"goit/rate"
	"goit/ring"
	"goit/round"
	"goit/rtt"
	"goit/script"
	"goit/sender"
	"goit/seqs"
)

// call is one that a chapter lists, and its signature there (a method has its object as the first argument).
type call struct {
	does any
	form string
}

// calls are all of them, layer by layer.
func calls() []call {
	return []call{
		// fix
		{fix.Add, "func(...uint64) uint64"},
		{fix.Sub, "func(uint64, ...uint64) uint64"},
		{fix.Mul, "func(uint64, uint64) uint64"},
		{fix.Share, "func(uint64, uint64, uint64) uint64"},
		{fix.Over, "func(uint64, uint64, uint64) uint64"},
		// clock
		{clock.New, "func() *clock.Clock"},
		{(*clock.Clock).Time, "func(*clock.Clock) uint64"},
		{(*clock.Clock).Bytes, "func(*clock.Clock) uint64"},
		{(*clock.Clock).Past, "func(*clock.Clock) bool"},
		{(*clock.Clock).To, "func(*clock.Clock, uint64) api.Errno"},
		{(*clock.Clock).Count, "func(*clock.Clock, uint64) api.Errno"},
		// conf
		{conf.Default, "func() api.Conf"},
		{conf.Right, "func(api.Conf) bool"},
		{conf.Least, "func(api.Conf) uint64"},
		{conf.First, "func(api.Conf) uint64"},
		{conf.Quantum, "func(api.Conf, uint64) uint64"},
		{conf.Flight, "func(uint64, uint64) uint64"},
		{conf.Print, "func(api.Conf) (string, api.Errno)"},
		{conf.Parse, "func(string) (api.Conf, api.Errno)"},
		// ring
		{ring.New[uint64], "func(...uint64) *ring.Ring[uint64]"},
		{(*ring.Ring[uint64]).Len, "func(*ring.Ring[uint64]) int"},
		{(*ring.Ring[uint64]).Push, "func(*ring.Ring[uint64], uint64)"},
		{(*ring.Ring[uint64]).Shift, "func(*ring.Ring[uint64]) (uint64, bool)"},
		{(*ring.Ring[uint64]).Pop, "func(*ring.Ring[uint64]) (uint64, bool)"},
		{(*ring.Ring[uint64]).At, "func(*ring.Ring[uint64], int) (uint64, bool)"},
		{(*ring.Ring[uint64]).All, "func(*ring.Ring[uint64]) []uint64"},
		{(*ring.Ring[uint64]).Clone, "func(*ring.Ring[uint64]) *ring.Ring[uint64]"},
		// filt
		{filt.Most, "func(uint64) *filt.Filter"},
		{filt.Least, "func(uint64) *filt.Filter"},
		{(*filt.Filter).Time, "func(*filt.Filter) uint64"},
		{(*filt.Filter).To, "func(*filt.Filter, uint64) api.Errno"},
		{(*filt.Filter).Put, "func(*filt.Filter, uint64, uint64) api.Errno"},
		{(*filt.Filter).Best, "func(*filt.Filter) (uint64, uint64, bool)"},
		{(*filt.Filter).Clone, "func(*filt.Filter) *filt.Filter"},
		// cycle
		{cycle.New, "func() *cycle.Cycle"},
		{(*cycle.Cycle).Put, "func(*cycle.Cycle, ...uint64)"},
		{(*cycle.Cycle).Next, "func(*cycle.Cycle)"},
		{(*cycle.Cycle).Best, "func(*cycle.Cycle) uint64"},
		{(*cycle.Cycle).Count, "func(*cycle.Cycle) uint64"},
		// seqs
		{seqs.New, "func() *seqs.Set"},
		{(*seqs.Set).Put, "func(*seqs.Set, ...api.Range) api.Errno"},
		{(*seqs.Set).Has, "func(*seqs.Set, uint64) bool"},
		{(*seqs.Set).All, "func(*seqs.Set) []api.Range"},
		{(*seqs.Set).Cut, "func(*seqs.Set, uint64)"},
		{(*seqs.Set).Gap, "func(*seqs.Set, uint64) uint64"},
		// ledger
		{ledger.New, "func(uint64) *ledger.Ledger"},
		{(*ledger.Ledger).Send, "func(*ledger.Ledger, uint64, api.Stamp) uint64"},
		{(*ledger.Ledger).Ack, "func(*ledger.Ledger, ...api.Range) ([]api.Packet, api.Errno)"},
		{(*ledger.Ledger).Lost, "func(*ledger.Ledger, uint64, uint64, uint64) []api.Packet"},
		{(*ledger.Ledger).Out, "func(*ledger.Ledger) []api.Packet"},
		{(*ledger.Ledger).InFlight, "func(*ledger.Ledger) uint64"},
		{(*ledger.Ledger).Next, "func(*ledger.Ledger) uint64"},
		{(*ledger.Ledger).Top, "func(*ledger.Ledger) (uint64, bool)"},
		{(*ledger.Ledger).Clone, "func(*ledger.Ledger) *ledger.Ledger"},
		// rtt
		{rtt.New, "func() *rtt.RTT"},
		{(*rtt.RTT).Put, "func(*rtt.RTT, uint64)"},
		{(*rtt.RTT).Last, "func(*rtt.RTT) (uint64, bool)"},
		{(*rtt.RTT).Smooth, "func(*rtt.RTT) uint64"},
		{(*rtt.RTT).Spread, "func(*rtt.RTT) uint64"},
		{(*rtt.RTT).Double, "func(*rtt.RTT)"},
		{(*rtt.RTT).Limit, "func(*rtt.RTT) uint64"},
		{(*rtt.RTT).Delay, "func(*rtt.RTT) uint64"},
		// rate
		{rate.New, "func() *rate.Sampler"},
		{(*rate.Sampler).Delivered, "func(*rate.Sampler) uint64"},
		{(*rate.Sampler).Stamp, "func(*rate.Sampler, uint64, uint64) api.Stamp"},
		{(*rate.Sampler).Limit, "func(*rate.Sampler, uint64)"},
		{(*rate.Sampler).Ack, "func(*rate.Sampler, uint64, ...api.Packet) (api.Sample, bool)"},
		// round
		{round.New, "func() *round.Counter"},
		{(*round.Counter).Ack, "func(*round.Counter, uint64, uint64) bool"},
		{(*round.Counter).Count, "func(*round.Counter) uint64"},
		{round.Empty, "func() *round.Pipe"},
		{(*round.Pipe).Put, "func(*round.Pipe, uint64, bool, bool)"},
		{(*round.Pipe).Full, "func(*round.Pipe) bool"},
		{(*round.Pipe).Best, "func(*round.Pipe) uint64"},
		// gain
		{gain.Right, "func(api.State) bool"},
		{gain.Name, "func(api.State) string"},
		{gain.Parse, "func(string) (api.State, api.Errno)"},
		{gain.Pace, "func(api.State, uint64) uint64"},
		{gain.Window, "func(api.State, uint64) uint64"},
		{gain.All, "func() []api.State"},
		// bound
		{bound.None, "func() bound.Bounds"},
		{bound.Bounds.Lose, "func(bound.Bounds, uint64, uint64, uint64) bound.Bounds"},
		{bound.Bounds.Pull, "func(bound.Bounds, uint64, uint64) bound.Bounds"},
		{bound.Bounds.Push, "func(bound.Bounds, uint64) bound.Bounds"},
		{bound.Bounds.Short, "func(bound.Bounds) bound.Bounds"},
		{bound.Bounds.Cap, "func(bound.Bounds, ...uint64) uint64"},
		{bound.Bounds.Room, "func(bound.Bounds) uint64"},
		{bound.Bounds.Limit, "func(bound.Bounds, uint64) uint64"},
		// mode
		{mode.Next, "func(api.State, api.Signal) api.State"},
		{mode.Wait, "func(api.State, uint64, uint64) uint64"},
		{mode.Follows, "func(api.State, api.State) bool"},
		// bbr
		{bbr.New, "func(api.Conf) (*bbr.Engine, api.Errno)"},
		{(*bbr.Engine).On, "func(*bbr.Engine, bbr.Event)"},
		{(*bbr.Engine).State, "func(*bbr.Engine) api.State"},
		{(*bbr.Engine).Cwnd, "func(*bbr.Engine) uint64"},
		{(*bbr.Engine).Pace, "func(*bbr.Engine) uint64"},
		{(*bbr.Engine).Quantum, "func(*bbr.Engine) uint64"},
		{(*bbr.Engine).Least, "func(*bbr.Engine) uint64"},
		{(*bbr.Engine).Best, "func(*bbr.Engine) uint64"},
		{(*bbr.Engine).Limits, "func(*bbr.Engine) bound.Bounds"},
		// pacer
		{pacer.New, "func() *pacer.Pacer"},
		{(*pacer.Pacer).Tick, "func(*pacer.Pacer, uint64, uint64, uint64) api.Errno"},
		{(*pacer.Pacer).Credit, "func(*pacer.Pacer) uint64"},
		{(*pacer.Pacer).Take, "func(*pacer.Pacer, uint64) bool"},
		{(*pacer.Pacer).Next, "func(*pacer.Pacer, uint64) (uint64, bool)"},
		{(*pacer.Pacer).Fill, "func(*pacer.Pacer)"},
		// sender
		{sender.New, "func(api.Conf) (*sender.Sender, api.Errno)"},
		{(*sender.Sender).Write, "func(*sender.Sender, uint64) api.Errno"},
		{(*sender.Sender).Tick, "func(*sender.Sender, uint64) ([]api.Packet, api.Errno)"},
		{(*sender.Sender).Ack, "func(*sender.Sender, uint64, ...api.Range) api.Errno"},
		{(*sender.Sender).Next, "func(*sender.Sender) (uint64, bool)"},
		{(*sender.Sender).Waiting, "func(*sender.Sender) uint64"},
		{(*sender.Sender).InFlight, "func(*sender.Sender) uint64"},
		{(*sender.Sender).Time, "func(*sender.Sender) uint64"},
		{(*sender.Sender).Past, "func(*sender.Sender) bool"},
		{(*sender.Sender).Engine, "func(*sender.Sender) *bbr.Engine"},
		// bucket
		{bucket.New, "func(uint64) *bucket.Bucket"},
		{(*bucket.Bucket).To, "func(*bucket.Bucket, uint64)"},
		{(*bucket.Bucket).Take, "func(*bucket.Bucket, uint64) bool"},
		{(*bucket.Bucket).Waste, "func(*bucket.Bucket, uint64) uint64"},
		{(*bucket.Bucket).Tokens, "func(*bucket.Bucket) uint64"},
		{(*bucket.Bucket).Wasted, "func(*bucket.Bucket) uint64"},
		// queue
		{queue.New, "func(uint64) *queue.Queue"},
		{(*queue.Queue).Put, "func(*queue.Queue, api.Packet) bool"},
		{(*queue.Queue).Head, "func(*queue.Queue) (api.Packet, bool)"},
		{(*queue.Queue).Shift, "func(*queue.Queue) (api.Packet, bool)"},
		{(*queue.Queue).All, "func(*queue.Queue) []api.Packet"},
		{(*queue.Queue).Bytes, "func(*queue.Queue) uint64"},
		{(*queue.Queue).Dropped, "func(*queue.Queue) (uint64, uint64)"},
		// jitter
		{jitter.New, "func(uint64, uint64) *jitter.Box"},
		{(*jitter.Box).Put, "func(*jitter.Box, api.Packet, uint64, uint64) uint64"},
		{(*jitter.Box).Out, "func(*jitter.Box, uint64) []api.Packet"},
		{(*jitter.Box).Next, "func(*jitter.Box) (uint64, bool)"},
		{(*jitter.Box).Len, "func(*jitter.Box) int"},
		{(*jitter.Box).All, "func(*jitter.Box) []api.Packet"},
		// link
		{link.Right, "func(api.Path) bool"},
		{link.New, "func(api.Path) (*link.Link, api.Errno)"},
		{(*link.Link).Send, "func(*link.Link, ...api.Packet) int"},
		{(*link.Link).Tick, "func(*link.Link, uint64, uint64, ...uint64) ([]api.Packet, api.Errno)"},
		{(*link.Link).Time, "func(*link.Link) uint64"},
		{(*link.Link).Count, "func(*link.Link) link.Count"},
		{(*link.Link).Tokens, "func(*link.Link) (uint64, uint64)"},
		{(*link.Link).Next, "func(*link.Link) (uint64, bool)"},
		// meter
		{meter.Run, "func(uint64, ...meter.Turn) ([]meter.Row, api.Errno)"},
		{meter.Check, "func(uint64, ...meter.Row) (int, meter.Clause)"},
		{meter.Turns, "func(...meter.Row) []meter.Turn"},
		// loop
		{loop.New, "func(api.Conf, api.Path) (*loop.Loop, api.Errno)"},
		{(*loop.Loop).Do, "func(*loop.Loop, ...loop.Step) (loop.Report, api.Errno)"},
		{(*loop.Loop).Sender, "func(*loop.Loop) *sender.Sender"},
		{(*loop.Loop).Link, "func(*loop.Loop) *link.Link"},
		// script
		{script.New, "func() *script.Desk"},
		{(*script.Desk).Loop, "func(*script.Desk) *loop.Loop"},
		{(*script.Desk).Setup, "func(*script.Desk) api.Conf"},
		{(*script.Desk).Line, "func(*script.Desk, string) (string, api.Errno)"},
		{(*script.Desk).Lines, "func(*script.Desk, ...string) ([]string, api.Errno)"},
	}
}

// edge is a value of a type that lies at its lower, or its upper, edge; objects are nil.
func edge(t reflect.Type, upper bool) reflect.Value {
	v := reflect.New(t).Elem()
	if !upper {
		return v
	}
	switch t.Kind() {
	case reflect.Uint64:
		v.SetUint(math.MaxUint64)
	case reflect.Int:
		v.SetInt(math.MaxInt64)
	case reflect.Bool:
		v.SetBool(true)
	case reflect.String:
		v.SetString("\x00 \xff")
	case reflect.Slice:
		v.Set(reflect.Append(v, edge(t.Elem(), true), edge(t.Elem(), false)))
	case reflect.Struct:
		for i := range t.NumField() {
			v.Field(i).Set(edge(t.Field(i).Type, true))
		}
	}
	return v
}

// TestCalls: each call has the signature that its chapter lists.
func TestCalls(t *testing.T) {
	for _, c := range calls() {
		if got := reflect.TypeOf(c.does).String(); got != c.form {
			t.Errorf("%s, not %s", got, c.form)
		}
	}
}

// TestNilObjects: no call panics on a nil object, at the edges of its other arguments (P1).
func TestNilObjects(t *testing.T) {
	for _, c := range calls() {
		f := reflect.ValueOf(c.does)
		for _, upper := range []bool{false, true} {
			var args []reflect.Value
			for i := range f.Type().NumIn() {
				args = append(args, edge(f.Type().In(i), upper))
			}
			func() {
				defer func() {
					if r := recover(); r != nil {
						t.Errorf("%s, upper edge %t: %v", c.form, upper, r)
					}
				}()
				if f.Type().IsVariadic() {
					f.CallSlice(args)
				} else {
					f.Call(args)
				}
			}()
		}
	}
}
