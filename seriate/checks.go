package seriate

import "seriate/api"

func isConfig(c api.Config) bool {
	return within(c.Txns, api.MaxTxns) &&
		within(c.Reads, api.MaxReads) &&
		within(c.Writes, api.MaxWrites) &&
		within(c.Versions, api.MaxVersions)
}

func within(n int, most int) bool { return 1 <= n && n <= most }

func isKey(key string) bool { return within(len(key), api.MaxKey) }

func checkRange(lo string, hi string) api.Errno {
	if len(lo) > api.MaxKey || len(hi) > api.MaxKey {
		return api.ErrKey
	}
	if hi != "" && lo >= hi {
		return api.ErrRange
	}
	return api.OK
}

func checkChanges(changes []api.Change) api.Errno {
	for _, c := range changes {
		if !isKey(c.Key) {
			return api.ErrKey
		}
		if len(c.Value) > api.MaxValue {
			return api.ErrValue
		}
	}
	return api.OK
}
