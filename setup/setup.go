// Package setup is which clusters may be. All kinds of nodes are made of a setup, and refuse the same ones.
package setup

import (
	"gristmill/api"
	"gristmill/fact"
)

// most is the greatest of those numbers that api has no limit of.
const most = 1000

// MayBe tells whether a setup may be.
func MayBe(s api.Setup) bool {
	return fact.Fine(s.Schema) == api.OK &&
		upTo(s.Streams, api.MaxStreams) &&
		upTo(s.Stores, api.MaxNodesOf) &&
		upTo(s.Leaders, api.MaxNodesOf) &&
		1 <= s.Chunk && s.Chunk <= api.MaxTime &&
		upTo(s.Replicas, most) &&
		upTo(s.Batch, most) &&
		upTo(s.Retry, most) &&
		upTo(s.Retention, most)
}

func upTo(n, limit int) bool { return 1 <= n && n <= limit }
