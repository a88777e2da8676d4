package mirror

import (
	"ferry/api"
	"ferry/frame"
	"ferry/part"
	"ferry/plan"
)

// alone is a partition that no channel joins to another one: its plan, its windows and what comes from outside are all that it hangs on.
type alone struct {
	plan    api.Plan
	ticks   int
	windows []api.Window
	state   api.State
}

// begin: the partition of that number at its boot, if it may run for so many frames.
func begin(c api.Config, number, frames int) (*alone, error) {
	// This asks the configuration first, and then the number.
	joined, err := frame.Joined(c, number)
	if err != nil {
		return nil, err
	}
	if frames < 0 || frames > api.MaxRun {
		return nil, api.ErrArg
	}
	if joined {
		return nil, api.ErrKind
	}
	windows, err := frame.Windows(c, number)
	if err != nil {
		return nil, err
	}
	boot, err := plan.Boot(c.Parts[number])
	if err != nil {
		return nil, err
	}
	return &alone{plan: c.Parts[number], ticks: c.Ticks, windows: windows, state: boot}, nil
}

// run: a frame for each list of what comes; what it emits, and its state behind them.
func (a *alone) run(feed [][]api.Msg) ([]api.Out, api.State, error) {
	s, outs, err := part.Frames(a.plan, a.state, a.ticks, a.windows, feed)
	if err != nil {
		return nil, api.State{}, err
	}
	a.state = s
	return outs, s, nil
}
