package session

import (
	"sandglass/api"
	"sandglass/batch"
)

// mostNames is how many names a Dump tells at most: an answer has room for so many, however long their keys are.
const mostNames = 12

// commands tells what does the commands of each kind; nothing does any, if New did not make s.
func (s *Session) commands() map[int]func(c api.Command) api.Answer {
	if !s.made() {
		return nil
	}
	return map[int]func(c api.Command) api.Answer{
		api.Check:  s.check,
		api.Batch:  s.batch,
		api.Peek:   s.peek,
		api.Reset:  s.reset,
		api.Set:    s.set,
		api.Get:    s.get,
		api.Delete: s.remove,
		api.Stats:  s.stats,
		api.Dump:   s.dump,
	}
}

func (s *Session) check(c api.Command) api.Answer {
	return api.Answer{Told: []api.Told{s.engine.Check(firstAsk(c))}}
}

func (s *Session) peek(c api.Command) api.Answer {
	return api.Answer{Told: []api.Told{s.engine.Peek(firstAsk(c))}}
}

func (s *Session) batch(c api.Command) api.Answer {
	if !c.All {
		told, code := batch.Each(s.engine, c.Asks)
		return api.Answer{Told: told, Code: code, Count: countLet(told)}
	}
	told, all, code := batch.All(s.engine, c.Asks)
	a := api.Answer{Told: told, Code: code}
	// Else what is told as let in would have been, if all else were too.
	if all {
		a.Count = len(told)
	}
	return a
}

func (s *Session) reset(c api.Command) api.Answer {
	return api.Answer{Code: s.engine.Forget(c.After)}
}

func (s *Session) set(c api.Command) api.Answer {
	version, code := s.engine.Set(c.Book, c.Policy)
	return api.Answer{Version: version, Code: code}
}

func (s *Session) get(c api.Command) api.Answer {
	p, version, code := s.engine.Policy(c.Book)
	return api.Answer{Policy: p, Version: version, Code: code}
}

func (s *Session) remove(c api.Command) api.Answer {
	return api.Answer{Code: s.engine.Delete(c.Book)}
}

func (s *Session) stats(api.Command) api.Answer {
	// No clock goes back to 0: so that but tells what it is.
	return api.Answer{Now: s.engine.Tick(0), Count: len(s.engine.Names())}
}

func (s *Session) dump(c api.Command) api.Answer {
	return api.Answer{Names: batch.Page(s.engine, c.After, min(c.Most, mostNames))}
}

// firstAsk tells a command's first ask; the zero one, if it has none.
func firstAsk(c api.Command) api.Ask {
	if len(c.Asks) == 0 {
		return api.Ask{}
	}
	return c.Asks[0]
}

// countLet tells how many asks were let in.
func countLet(told []api.Told) int {
	count := 0
	for _, t := range told {
		if t.Verdict.Allowed {
			count++
		}
	}
	return count
}
