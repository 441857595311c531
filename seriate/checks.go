package seriate

import "seriate/api"

func isConfig(c api.Config) bool {
	return within(c.Txns, api.MaxTxns) &&
		within(c.Reads, api.MaxReads) &&
		within(c.Writes, api.MaxWrites) &&
		within(c.Versions, api.MaxVersions)
}

func within(n int, most int) bool { return 1 <= n && n <= most }

func isKey(key string) bool { return within(len(key), api.MaxKey) }

func checkRange(lo string, hi string) api.Errno {
	if len(lo) > api.MaxKey || len(hi) > api.MaxKey {
		return api.ErrKey
	}
	if hi != "" && lo >= hi {
		return api.ErrRange
	}
	return api.OK
}

func checkChanges(changes []api.Change) api.Errno {
	for _, c := range changes {
		if !isKey(c.Key) {
			return api.ErrKey
		}
		if len(c.Value) > api.MaxValue {
			return api.ErrValue
		}
	}
	return api.OK
}

func arePrograms(programs [][]api.Ins) bool {
	if len(programs) > api.MaxPrograms {
		return false
	}
	for _, p := range programs {
		if !isProgram(p) {
			return false
		}
	}
	return true
}

func isProgram(p []api.Ins) bool {
	if len(p) > api.MaxSteps {
		return false
	}
	for _, i := range p {
		if !isKind(i.Kind) || i.N < 0 || i.N > api.MaxSteps {
			return false
		}
	}
	return true
}

func isKind(kind int) bool { return api.Get <= kind && kind <= api.Abort }

func isSchedule(schedule []int, programs int) bool {
	if len(schedule) > api.MaxSchedule {
		return false
	}
	for _, n := range schedule {
		if n < 0 || n >= programs {
			return false
		}
	}
	return true
}
