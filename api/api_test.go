package api_test

import (
	"testing"

	"diptych/api"
)

func TestLimits(t *testing.T) {
	if api.MaxDepth != 40 || api.MaxTokens != 4000 || api.MaxName != 8 || api.TextKind != "text" {
		t.Error(api.MaxDepth, api.MaxTokens, api.MaxName, api.TextKind)
	}
}

func TestErrorsAreOneByOne(t *testing.T) {
	for i, e := range []api.Errno{api.OK, api.ErrArg, api.ErrForm, api.ErrRange, api.ErrDeep, api.ErrLarge, api.ErrValid, api.ErrType, api.ErrStale, api.ErrNone, api.ErrSplit} {
		if int(e) != i {
			t.Error(i, e)
		}
	}
	if s := api.ErrSplit.Error(); s != "diptych: 10" {
		t.Error(s)
	}
}
