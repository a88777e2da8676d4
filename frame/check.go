package frame

import (
	"slices"

	"ferry/api"
	"ferry/plan"
)

// modules is how many modules there are: a Home is below it.
const modules = 2

// Check: is the configuration in form?
func Check(c api.Config) error {
	if c.Ticks < 1 || c.Ticks > api.MaxTicks || c.Tries < 1 || c.Tries > api.MaxTries {
		return api.ErrRange
	}
	if len(c.Parts) < 1 || len(c.Parts) > api.MaxParts {
		return api.ErrSize
	}
	if err := each(c, c.Parts, checkPart); err != nil {
		return err
	}
	if len(c.Homes) != len(c.Parts) {
		return api.ErrSize
	}
	if err := each(c, c.Homes, checkHome); err != nil {
		return err
	}
	if len(c.Windows) > api.MaxWins {
		return api.ErrSize
	}
	if err := each(c, c.Windows, checkWindow); err != nil {
		return err
	}
	if err := each(c, c.Parts, checkRuns); err != nil {
		return err
	}
	if len(c.Links) > api.MaxLinks {
		return api.ErrSize
	}
	if err := each(c, c.Links, checkLink); err != nil {
		return err
	}
	return checkSnap(c)
}

// each: is each of the list's elements in form? The place is the first one's that isn't.
func each[T any](c api.Config, list []T, check func(api.Config, int) error) error {
	for i := range list {
		if err := check(c, i); err != nil {
			return &api.At{Place: i, Err: err}
		}
	}
	return nil
}

// checkPart: what is wrong within the plan isn't told here.
func checkPart(c api.Config, part int) error {
	if plan.Check(c.Parts[part]) != nil {
		return api.ErrPlan
	}
	if c.Parts[part].Id != part {
		return api.ErrArg
	}
	return nil
}

func checkHome(c api.Config, part int) error {
	if !isModule(c.Homes[part]) {
		return api.ErrRange
	}
	return nil
}

// checkWindow: the windows ahead of it are in form. (Its end is added up nowhere ahead of that, since a sum may wrap.)
func checkWindow(c api.Config, i int) error {
	w := c.Windows[i]
	if !isOwner(c, w.Part) {
		return api.ErrArg
	}
	if w.Start < 0 || w.Len < 1 || w.Len > c.Ticks-w.Start {
		return api.ErrRange
	}
	if i > 0 && w.Start < end(c.Windows[i-1]) {
		return api.ErrBusy
	}
	return nil
}

// checkRuns: has the partition a window?
func checkRuns(c api.Config, part int) error {
	if !owns(c, part) {
		return api.ErrNone
	}
	return nil
}

func checkLink(c api.Config, i int) error {
	l := c.Links[i]
	if !isPart(c, l.From) || !isPart(c, l.To) || l.From == l.To {
		return api.ErrArg
	}
	from, to := c.Parts[l.From], c.Parts[l.To]
	if from.Mobile || to.Mobile {
		return api.ErrPlan
	}
	if !isPort(from, l.Out, api.SampleOut, api.QueueOut) || !isPort(to, l.In, api.SampleIn, api.QueueIn) {
		return api.ErrKind
	}
	return nil
}

// checkSnap: a partition that may move needs a window for the work on its image.
func checkSnap(c api.Config) error {
	mobile := func(p api.Plan) bool { return p.Mobile }
	if slices.ContainsFunc(c.Parts, mobile) && !owns(c, api.Snap) {
		return api.ErrNone
	}
	return nil
}

func isModule(n int) bool { return n >= 0 && n < modules }

func isPart(c api.Config, n int) bool { return n >= 0 && n < len(c.Parts) }

// isOwner: may a window be its?
func isOwner(c api.Config, n int) bool { return n == api.Snap || isPart(c, n) }

// isPort: is it the number of a port of one of these kinds?
func isPort(p api.Plan, n int, kinds ...int) bool {
	return n >= 0 && n < len(p.Ports) && slices.Contains(kinds, p.Ports[n].Kind)
}

// owns: is a window its?
func owns(c api.Config, owner int) bool {
	return slices.ContainsFunc(c.Windows, func(w api.Window) bool { return w.Part == owner })
}

// end: the tick behind the window's last one.
func end(w api.Window) int { return w.Start + w.Len }
