package laws

import (
	"testing"

	"joust/api"
)

// The section 'Errors' of the document.
func TestErrorNumbers(t *testing.T) {
	for want, got := range map[int]api.Errno{
		0: api.OK, 50: api.ErrShort, 51: api.ErrRange, 60: api.ErrName,
		70: api.ErrMagic, 71: api.ErrKind, 72: api.ErrLength, 73: api.ErrField,
		80: api.ErrRate, 90: api.ErrOld, 91: api.ErrSeen, 92: api.ErrFar,
		100: api.ErrEpoch, 101: api.ErrCookie, 110: api.ErrSize, 111: api.ErrFull,
		120: api.ErrAccount, 121: api.ErrTaken, 122: api.ErrSession, 123: api.ErrSource, 124: api.ErrTag,
		140: api.ErrBoard, 141: api.ErrPlace, 170: api.ErrPlayer, 171: api.ErrLabel,
		180: api.ErrExcess, 190: api.ErrLedger, 210: api.ErrView,
		230: api.ErrConfig, 231: api.ErrEvent, 240: api.ErrState, 241: api.ErrStale,
		260: api.ErrDemo, 261: api.ErrSeek, 280: api.ErrLine,
	} {
		if int(got) != want {
			t.Errorf("error %d is %d", want, int(got))
		}
	}
	var err error = api.ErrMagic
	if err.Error() != "error 70" {
		t.Errorf("ErrMagic tells %q", err.Error())
	}
}

// The section 'Limits' of the document, and what 'Errors' says of the other numbers.
func TestLimitNumbers(t *testing.T) {
	for _, x := range []struct {
		name      string
		got, want int
	}{
		{"One", api.One, 65536},
		{"MaxData", api.MaxData, 1200},
		{"MaxSessions", api.MaxSessions, 32},
		{"MaxOutput", api.MaxOutput, 256},
		{"MaxRing", api.MaxRing, 4096},
		{"MaxSources", api.MaxSources, 64},
		{"MaxAccounts", api.MaxAccounts, 64},
		{"MaxNameLen", api.MaxNameLen, 24},
		{"MaxNameRune", api.MaxNameRune, 12},
		{"MaxRate", api.MaxRate, 1000},
		{"MaxTicks", api.MaxTicks, 100000},
		{"MaxRadius", api.MaxRadius, 1024},
		{"MaxShow", api.MaxShow, 32},
		{"MaxSide", api.MaxSide, 64},
		{"MaxShots", api.MaxShots, 64},
		{"HelloLen", api.HelloLen, 96},
		{"NonceLen", api.NonceLen, 16},
		{"TagLen", api.TagLen, 32},
		{"TopTurn", api.TopTurn, 8},
		{"TopPower", api.TopPower, 100},
		{"Share", api.Share, 16},
		{"KdHello", api.KdHello, 1},
		{"KdCookie", api.KdCookie, 2},
		{"KdConnect", api.KdConnect, 3},
		{"KdWelcome", api.KdWelcome, 4},
		{"KdCommand", api.KdCommand, 5},
		{"KdSnapshot", api.KdSnapshot, 6},
		{"KdBye", api.KdBye, 7},
	} {
		if x.got != x.want {
			t.Errorf("%s is %d, want %d", x.name, x.got, x.want)
		}
	}
}
