package referee

import (
	"errors"
	"testing"

	"joust/api"
)

// The chapter's Ways: a refusal wraps another error, which errors.As takes out, and tells both.
func TestRefusal(t *testing.T) {
	for _, e := range []api.Errno{api.ErrLedger, api.ErrTag, api.ErrConfig} {
		err := error(refusal{entry: 7, cause: e})
		var r refusal
		var code api.Errno
		if !errors.As(err, &r) || r.entry != 7 || !errors.As(err, &code) || code != e || !errors.Is(err, e) || errors.Unwrap(err) != e {
			t.Errorf("%v", err)
		}
		if want := "entry 7: " + e.Error(); err.Error() != want {
			t.Errorf("%q, want %q", err.Error(), want)
		}
	}
}

// judge tells nothing where nothing is at fault, and its refusal where something is.
func TestJudgeInside(t *testing.T) {
	c := api.Config{Sessions: 1, Output: 1, Burst: 1, SourceBurst: 1, Idle: 1, Life: 1, Seed: "12345678901234567890123456789012", Board: "###\n#S#\n###"}
	if err := judge(c, nil, []api.Entry{{Kind: api.LbTick}}); err != nil {
		t.Errorf("%v", err)
	}
	if err := judge(c, nil, []api.Entry{{Kind: api.LbTick}, {Kind: api.LbTick}}); err != (refusal{entry: 1, cause: api.ErrLedger}) {
		t.Errorf("%v", err)
	}
	c.Life = 0
	if err := judge(c, nil, nil); err != (refusal{entry: -1, cause: api.ErrConfig}) {
		t.Errorf("%v", err)
	}
}
