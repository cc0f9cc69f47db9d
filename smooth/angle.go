package smooth

const (
	headings  = 256 // of a whole turn
	aHeading  = 1.40625
	wholeTurn = 360
	halfTurn  = wholeTurn / 2
)

// angleOf tells a heading in degrees. Where a heading is below 0, its last bits are still those of it modulo a turn.
func angleOf(heading int) float32 {
	return float32(float32(heading&(headings-1)) * aHeading)
}

// shorterWay takes the other way round, where a way is more than half a turn.
func shorterWay(way float32) float32 {
	switch {
	case way > halfTurn:
		return way - wholeTurn
	case way < -halfTurn:
		return way + wholeTurn
	}
	return way
}

// inTurn brings an angle back that left the turn. It takes one step alone: between two angles of the turn none leaves it farther.
func inTurn(angle float32) float32 {
	if angle >= wholeTurn {
		angle -= wholeTurn
	}
	if angle < 0 {
		angle += wholeTurn
		if angle >= wholeTurn { // it was so little below 0 that the sum was rounded up
			return 0
		}
	}
	return angle
}
