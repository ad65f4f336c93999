package wording

import (
	"testing"

	"tabard/api"
	"tabard/formula"
	"tabard/shortest"
)

func TestValue(t *testing.T) {
	for _, c := range []struct {
		v    api.Value
		want string
	}{
		{api.Value{}, "empty"}, {api.Value{Kind: api.Number, Bits: 0x3FB999999999999A}, "number 0.1"}, {api.Value{Kind: api.Number, Bits: api.NegZero}, "number -0"}, {api.Value{Kind: api.Bool, Is: true}, "bool TRUE"}, {api.Value{Kind: api.Bool}, "bool FALSE"}, {api.Value{Kind: api.Text, Text: "a\"é"}, `text "a\"\xc3\xa9"`}, {api.Value{Kind: api.Fail, Fail: 7}, "error #N/A"}, {api.Value{Kind: api.Text, Text: " ~\x7f\x1f"}, `text " ~\x7f\x1f"`},
	} {
		if s := Value(c.v, shortest.New()); s != c.want {
			t.Error(c, s)
		}
	}
}

func TestFail(t *testing.T) {
	for n := 1; n <= 8; n++ {
		if Fail(formula.Fail(n)) != n {
			t.Error(n)
		}
	}
	for _, s := range []string{"", "#n/a", "#N/A ", "N/A"} {
		if Fail(s) != 0 {
			t.Error(s)
		}
	}
}

func TestEnglish(t *testing.T) {
	if e, err, _ := English().Parse("SUM(1.5,2)"); err != api.OK || English().Print(e) != "SUM(1.5,2)" {
		t.Error(err)
	}
}
