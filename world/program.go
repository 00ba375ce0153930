package world

import (
	"hostler/api"
	"hostler/cell"
	"hostler/clock"
	"hostler/event"
	"hostler/mach"
	"hostler/note"
	"hostler/section"
	"hostler/status"
	"hostler/ticket"
)

// machine is a machine, and what it found out with a lock held, by which it
// goes on, once the section is over.
type machine struct {
	mach.Machine
	yes bool
	// until is when the sleep ends that its goroutine asked for.
	until int64
}

// get: one was found, or none.
func (m *machine) get(g int, is bool) {
	m.yes = is
	if is {
		m.Got = g
	}
}

// getAll: the first one was found, and the others beside it, or none.
func (m *machine) getAll(l []int) {
	m.yes = len(l) > 0
	if m.yes {
		m.Got, m.Rest = l[0], l[1:]
	}
}

// hold: a processor was taken, or none.
func (m *machine) hold(p int, is bool) {
	m.yes = is
	if is {
		m.P = p
	}
}

// pick: one step of a machine's program, if it isn't asleep.
func (w *World) pick(s Step) bool {
	i := s.A
	if i < 0 || i >= len(w.machines) || w.Asleep(i) {
		return false
	}
	m := &w.machines[i]
	switch {
	case m.Place == mach.Exec:
		return w.act(i, s)
	case m.In || mach.Lock(m.Machine, w.config.P) >= 0:
		w.locked(i)
	default:
		w.pass(i)
	}
	return true
}

// locked: one step of the section of a machine's place.
func (w *World) locked(i int) {
	m := &w.machines[i]
	if !m.In {
		k := mach.Lock(m.Machine, w.config.P)
		m.In, m.Section = true, section.Begin(ticket.Lock{Next: 2 * k, Serving: 2*k + 1})
	}
	if m.Section.Step(w.memory, func(times int) bool { return w.with(i, times) }) {
		m.In, m.Section = false, section.Section{}
		w.goOn(i)
	}
}

// with is what a machine does at its place with the lock held: does that go
// on?
func (w *World) with(i, times int) bool {
	m := &w.machines[i]
	switch m.Place {
	case mach.One:
		m.get(w.queue.One())
	case mach.Local:
		m.get(w.rings[m.P].Get())
	case mach.Global:
		m.getAll(w.queue.Take())
	case mach.Steal:
		m.getAll(w.rings[(m.P+m.I)%w.config.P].Steal())
	case mach.Release:
		w.release(m)
	case mach.Look:
		m.yes = w.rings[m.I].Len() > 0
	case mach.LookGlobal:
		m.yes = w.queue.Len() > 0
	case mach.Retake:
		m.hold(w.idle.TakeP())
	case mach.Stop:
		w.stop(i)
	case mach.Check:
		m.yes = w.source.Due()
	case mach.Unpoll:
		m.yes = w.idle.Leave(i)
	case mach.Deliver:
		m.get(w.source.Take())
	default:
		return w.give(i, times)
	}
	return false
}

// give is with, at places where a machine gives away what it has in hand.
func (w *World) give(i, times int) bool {
	m := &w.machines[i]
	switch m.Place {
	case mach.PutRest:
		m.Rest = w.rings[m.P].PutAll(m.Rest)
	case mach.PutOver:
		w.queue.Put(m.Rest...)
		m.Rest = nil
	case mach.PutOne:
		w.queue.Put(m.Got)
		m.Got = nobody
	case mach.PutNext:
		m.Rest = w.rings[m.P].Ready(m.Got)
		m.Got = nobody
	case mach.Find:
		return w.find(m, times)
	case mach.Park:
		return w.park(i, times)
	case mach.Await:
		return w.await(i, times)
	}
	return false
}

// release: a last look at the queue; its processor is idle, if there is none.
func (w *World) release(m *machine) {
	m.getAll(w.queue.Take())
	if !m.yes {
		w.idle.PutP(m.P)
		m.P = nobody
	}
}

// stop: a machine has a pending processor, or stops, perhaps as the poller.
func (w *World) stop(i int) {
	m := &w.machines[i]
	if p, is := w.idle.TakePending(); is {
		// Whoever made it pending has counted who gets it among the spinning.
		m.P, m.Spin = p, true
		return
	}
	m.yes, _ = w.idle.Stop(i)
}

// find: an idle processor is given to a machine; if there is none, who claimed
// to spin for it does so no more.
func (w *World) find(m *machine, times int) bool {
	if times > 0 {
		w.spin(-1)
		return false
	}
	p, is := w.idle.TakeP()
	if !is {
		return true
	}
	target, is := w.idle.TakeM()
	if !is {
		w.idle.Pend(p)
		return false
	}
	w.machines[target].Next, m.Target = p, target
	return false
}

// park: a machine's goroutine sleeps.
func (w *World) park(i, times int) bool {
	m := &w.machines[i]
	if times > 0 {
		w.leave(i, event.Sleep, m.until)
		return false
	}
	m.until = clock.Sum(w.source.Now(), max(m.Arg, 0))
	m.yes, _ = w.source.Sleep(m.P, m.G, m.Arg)
	return true
}

// await: a machine's goroutine waits, if it may.
func (w *World) await(i, times int) bool {
	m := &w.machines[i]
	if times > 0 {
		w.leave(i, event.Wait, m.Arg)
		return false
	}
	due, e := w.source.Wait(uint16(m.Arg), m.G)
	m.yes = due
	return e == api.OK
}

// leave: a machine's goroutine runs no more.
func (w *World) leave(i int, k event.Kind, value int64) {
	m := &w.machines[i]
	w.see(event.Event{Kind: k, G: m.G, M: i, P: m.P, Value: value})
	m.G = nobody
}

// goOn: a machine's section is over.
func (w *World) goOn(i int) {
	m := &w.machines[i]
	switch m.Place {
	case mach.One, mach.Local, mach.Global, mach.Steal, mach.Release:
		w.found(m)
	case mach.Look, mach.LookGlobal, mach.Retake, mach.Stop, mach.Check, mach.Unpoll:
		w.rest(m)
	case mach.PutNext:
		m.Back = mach.Exec
		m.settle()
	case mach.PutRest, mach.PutOver:
		m.settle()
	case mach.PutOne:
		m.Place = mach.Load
	case mach.Find:
		m.Place = either(m.Target != nobody, mach.Wake, m.Back)
	case mach.Deliver:
		m.Place = either(m.yes, mach.Mark, m.After)
	case mach.Await:
		m.Place = mach.Exec
		if m.G == nobody {
			m.parked()
		}
	case mach.Park:
		m.parked()
	}
}

// either is a place, if something is so, else another one.
func either(is bool, yes, no mach.Place) mach.Place {
	if is {
		return yes
	}
	return no
}

// found: one was found, or a machine looks on.
func (w *World) found(m *machine) {
	switch {
	case m.yes:
		m.Back = mach.Dispatch
		m.Place = either(m.Spin, mach.Unspin, mach.Dispatch)
		if len(m.Rest) > 0 {
			m.Place = mach.PutRest
		}
	case m.Place == mach.One:
		m.Place = mach.Local
	case m.Place == mach.Local:
		m.Place = mach.Global
	case m.Place == mach.Global && !m.Spin:
		m.Place = mach.SpinUp
	case m.Place == mach.Global:
		w.steal(m, 1)
	case m.Place == mach.Steal:
		w.steal(m, m.I+1)
	default:
		m.Place = mach.Drop
	}
}

// steal: the ring so many behind a machine's own is next, if it isn't its own
// again.
func (w *World) steal(m *machine, at int) {
	m.I, m.Place = at, either(at < w.config.P, mach.Steal, mach.Release)
}

// rest: a machine that gave its processor back goes on, to look once more, and
// to sleep.
func (w *World) rest(m *machine) {
	switch m.Place {
	case mach.Look:
		w.look(m)
	case mach.LookGlobal:
		m.Place = either(m.yes, mach.Retake, mach.Stop)
	case mach.Retake:
		m.Place = either(m.yes, mach.SpinBack, mach.Stop)
	case mach.Stop:
		m.Place = either(m.yes, mach.Check, mach.Sleep)
		if m.P != nobody {
			m.Place = mach.Global
		}
	case mach.Check:
		m.Place = either(m.yes, mach.Unpoll, mach.Sleep)
	case mach.Unpoll:
		m.Place = mach.Sleep
		if m.yes {
			m.deliver(mach.Stop)
		}
	}
}

// look: on to the next ring, or to take a processor, if this one has one.
func (w *World) look(m *machine) {
	if m.yes {
		m.Place = mach.Retake
		return
	}
	m.I++
	m.Place = either(m.I < w.config.P, mach.Look, mach.LookGlobal)
}

// settle: what was put is there for all; somebody may have to be woken.
func (m *machine) settle() {
	m.Place = either(m.Spin, mach.Unspin, mach.Load)
	if len(m.Rest) > 0 {
		m.Place = mach.PutOver
	}
}

// deliver: to whoever is due, and then on.
func (m *machine) deliver(after mach.Place) { m.After, m.Place = after, mach.Deliver }

// parked: a machine's goroutine is out; perhaps somebody is due already.
func (m *machine) parked() {
	m.Place = mach.Sched
	if m.yes {
		m.deliver(mach.Sched)
	}
}

// pass: a machine's step at a place without a lock.
func (w *World) pass(i int) {
	m := &w.machines[i]
	switch m.Place {
	case mach.Sched:
		w.turn(m)
	case mach.SpinUp:
		w.setSpin(m, true)
		w.steal(m, 1)
	case mach.Drop:
		w.setSpin(m, false)
		m.I, m.Place = 0, mach.Look
	case mach.SpinBack:
		w.setSpin(m, true)
		m.Place = mach.Global
	case mach.Unspin:
		w.setSpin(m, false)
		m.Place = mach.Load
	case mach.Sleep:
		w.rise(i)
	case mach.Dispatch:
		w.see(event.Event{Kind: event.Dispatch, G: m.Got, M: i, P: m.P})
		m.G, m.Got, m.Place = m.Got, nobody, mach.Exec
	case mach.Load:
		m.Place = either(w.memory.Load(w.spinning) == 0, mach.Claim, m.Back)
	case mach.Claim:
		was := w.memory.Swap(w.spinning, 0, 1)
		w.seen.Swap(w.spinning, 0, 1)
		m.Place = either(was, mach.Find, m.Back)
	case mach.Wake:
		w.wake(m.Target)
		m.Target, m.Place = nobody, m.Back
	case mach.Mark:
		w.see(event.Event{Kind: event.Ready, G: m.Got, M: i, P: m.P})
		m.Back, m.Place = mach.Deliver, mach.PutOne
	}
}

// turn: a machine's processor has a turn more; now and then the queue comes
// first.
func (w *World) turn(m *machine) {
	w.turns[m.P]++
	m.Place = mach.Local
	if w.turns[m.P]%api.Fair == 0 {
		m.deliver(mach.One)
	}
}

// setSpin: a machine looks for work, or does so no more.
func (w *World) setSpin(m *machine, is bool) {
	if m.Spin = is; is {
		w.spin(1)
	} else {
		w.spin(-1)
	}
}

// rise: a machine that was woken has what it was given, or is the one that
// delivers.
func (w *World) rise(i int) {
	m := &w.machines[i]
	sleeper := note.Sleeper{Note: w.notes + i, Until: note.Forever}
	w.both(func(memory *cell.Memory) { sleeper.Step(memory, w.source.Now()) })
	if m.Next == nobody {
		m.deliver(mach.Stop)
		return
	}
	m.P, m.Next, m.Spin, m.Place = m.Next, nobody, true, mach.Global
}

// act: what a goroutine that runs does.
func (w *World) act(i int, s Step) bool {
	m := &w.machines[i]
	switch s.Act {
	case Run:
	case Yield:
		m.Got = m.G
		w.leave(i, event.Yield, 0)
		m.Back, m.Place = mach.Sched, mach.PutOne
	case Block:
		w.leave(i, event.Block, 0)
		m.Place = mach.Sched
	case Exit:
		w.leave(i, event.Exit, 0)
		m.Place = mach.Sched
	case Spawn:
		return w.bring(i, event.Spawn, s.X, status.None)
	case Wake:
		return w.bring(i, event.Ready, s.X, status.Blocked)
	case Sleep:
		m.Arg, m.Place = s.D, mach.Park
	case Wait:
		if !isDescriptor(s.X) {
			return false
		}
		m.Arg, m.Place = int64(s.X), mach.Await
	default:
		return false
	}
	return true
}

// bring: a goroutine is runnable by another one, if it has a status.
func (w *World) bring(i int, k event.Kind, g int, from status.Status) bool {
	if g < 0 || g >= w.config.G || w.Status(g) != from {
		return false
	}
	m := &w.machines[i]
	w.see(event.Event{Kind: k, G: g, M: i, P: m.P})
	m.Got, m.Place = g, mach.PutNext
	return true
}
