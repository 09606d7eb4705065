package plan

import (
	"skep/api"
	"skep/resv"
	"skep/route"
	"skep/tick"
)

// walk is a round that is being planned: where the robot is by then, since when, and the parts that led there.
type walk struct {
	c     api.Conf
	t     *resv.Table
	robot int
	pose  api.Pose
	at    int
	parts [][]api.Move
}

// round goes to all stops, and home; it ends at the first way that has an error.
func (w *walk) round(stops []Stop, home api.Pose) api.Errno {
	var e api.Errno
stops:
	for _, s := range stops {
		switch e = w.lead(route.Goal{Pose: api.Pose{At: s.At}, Any: true}); e {
		case api.OK:
			w.hoist(s.Kind)
		default:
			break stops
		}
	}
	if e != api.OK {
		return e
	}
	return w.lead(route.Goal{Pose: home})
}

// lead goes to a goal.
func (w *walk) lead(goal route.Goal) api.Errno {
	moves, e := route.Find(w.c, w.t, w.robot, w.pose, w.at, goal)
	if e != api.OK {
		return e
	}
	w.add(moves)
	return api.OK
}

// hoist lifts or drops where the robot is.
func (w *walk) hoist(kind int) {
	// At the end of time it is Forever, where no way begins: the next one tells that.
	end := tick.Sum(w.at, w.c.Hoist)
	w.add([]api.Move{{Kind: kind, From: w.pose, To: w.pose, At: w.at, End: end}})
}

// add puts a part behind the others; the robot is where and when its last move ends.
func (w *walk) add(part []api.Move) {
	if len(part) == 0 {
		return
	}
	last := part[len(part)-1]
	w.pose, w.at = last.To, last.End
	w.parts = append(w.parts, part)
}
