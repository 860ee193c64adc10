package desk

import (
	"slices"
	"strconv"
	"strings"
	"testing"

	"lodge/api"
	"lodge/graph"
	"lodge/tens"
)

func narrow(l ...int) api.Desc { return api.Desc{Shape: l} }
func wide(l ...int) api.Desc   { return api.Desc{Shape: l, Wide: true} }

func of(d api.Desc, data ...int) api.Tensor { return api.Tensor{Desc: d, Data: data} }

// text is err as a text; of nil empty.
func text(err error) string {
	if err == nil {
		return ""
	}
	return err.Error()
}

var (
	noWord   = api.ErrWord.Error()
	noNumber = api.ErrNumber.Error()
)

// P30.1
func TestTensor(t *testing.T) {
	for s, want := range map[string]api.Tensor{
		"n[2]:1,-2": of(narrow(2), 1, -2), "n[]:0": of(narrow(), 0), "w[2x1]:-2147483648,2147483647": of(wide(2, 1), -1<<31, 1<<31-1), "w[]:-128": of(wide(), -128), "n[1x1x1x1]:127": of(narrow(1, 1, 1, 1), 127),
	} {
		got, err := Tensor(s)
		if err != nil || !tens.Same(got, want) {
			t.Error(s, got, err)
		}
		if Show(want) != s {
			t.Error(s, Show(want))
		}
	}
	for s, want := range map[string]string{
		"": noWord, "n": noWord, "n[2": noWord, "n[2]": noWord, "n[2]1,2": noWord, "n[2] :1,2": noWord, "x[2]:1,2": noWord, "N[2]:1,2": noWord, "[2]:1,2": noWord, "n2]:1,2": noWord, "nn[2]:1,2": noWord, "n[2]]:1,2": noWord, "n]:1": noWord, " n[]:1": noWord,
		"n[2]:": noNumber, "n[2]:1,": noNumber, "n[2]:,1": noNumber, "n[2]:1,,2": noNumber, "n[2]:1,x": noNumber, "n[2]:1,02": noNumber, "n[2]:1,-0": noNumber, "n[2]:1,--2": noNumber, "n[2]:1,-": noNumber, "n[2]:1,+2": noNumber, "n[2]:1,12345678901": noNumber, "n[]:1;": noNumber, "n[2]:1 ,2": noNumber,
		"n[x]:1": noNumber, "n[2x]:1,2": noNumber, "n[-0]:1": noNumber, "n[-]:1": noNumber, "n[-01]:1": noNumber, "n[--1]:1": noNumber, "n[-1000]:1": noNumber, "n[1-]:1": noNumber, "n[3x-1000]:1": noNumber, "n[-1]:x": noNumber, "n[-1]:": noNumber, "n[02]:1,2": noNumber, "n[1000]:1": noNumber, "n[0002]:1,2": noNumber, "n[2,1]:1,2": noNumber, "n[n[2]:1": noNumber, "n[y]:z": noNumber,
		"n[-1]:1": api.ErrRange.Error(), "n[3x-1]:1,2,3": api.ErrRange.Error(), "n[-100]:1": api.ErrRange.Error(), "n[-999x1]:300": api.ErrRange.Error(), "w[-1]:9999999999": api.ErrRange.Error(),
		"n[0]:1": api.ErrRange.Error(), "n[257]:1": api.ErrRange.Error(), "n[999]:1": api.ErrRange.Error(), "n[1x1x1x1x1]:1": api.ErrMany.Error(), "n[3]:1,2": api.ErrShape.Error(), "n[]:1,2": api.ErrShape.Error(),
		"n[2]:1,128": "1: " + api.ErrRange.Error(), "n[2]:-129,128": "0: " + api.ErrRange.Error(), "w[]:9999999999": "0: " + api.ErrRange.Error(), "w[2]:0,2147483648": "1: " + api.ErrRange.Error(),
	} {
		if got, err := Tensor(s); text(err) != want || got.Data != nil || got.Shape != nil || got.Wide {
			t.Error(s, got, err)
		}
	}
	for i, x := range []api.Tensor{{}, of(narrow(2), 1), of(narrow(), 200), of(narrow(0))} {
		if Show(x) != "" {
			t.Error(i, Show(x))
		}
	}
}

// P30.1
func TestGraph(t *testing.T) {
	for s, want := range map[string]api.Graph{
		"input(;0,2) add(0,0)":                   {Nodes: []api.Node{{Op: api.Input, Args: []int{0, 2}}, {Op: api.Add, Ins: []int{0, 0}}}, Out: 1},
		"  const(;w[2]:1,-2)  ":                  {Nodes: []api.Node{{Op: api.Const, T: of(wide(2), 1, -2)}}},
		"weight(;3,1) clamp(0;-5,7) relu()":      {Nodes: []api.Node{{Op: api.Weight, Args: []int{3, 1}}, {Op: api.Clamp, Ins: []int{0}, Args: []int{-5, 7}}, {Op: api.Relu}}, Out: 2},
		"const(4,-1;n[]:0) reshape(9999999999;)": {Nodes: []api.Node{{Op: api.Const, Ins: []int{4, -1}, T: of(narrow(), 0)}, {Op: api.Reshape, Ins: []int{9999999999}}}, Out: 1},
		"matmul(1,2;3) turn(0)":                  {Nodes: []api.Node{{Op: api.MatMul, Ins: []int{1, 2}, Args: []int{3}}, {Op: api.Turn, Ins: []int{0}}}, Out: 1},
	} {
		if got, err := Graph(s); err != nil || !graph.Same(got, want) {
			t.Error(s, got, err)
		}
	}
	for s, want := range map[string]string{
		"": noWord, "   ": noWord, "input": "0: " + noWord, "input(": "0: " + noWord, "input)": "0: " + noWord, "(;0)": "0: " + noWord, "halt()": "0: " + noWord, "Input(;0)": "0: " + noWord, "relu(0) x(0)": "1: " + noWord, "relu(0)x": "0: " + noWord, "relu (0)": "0: " + noWord, "relu[0]": "0: " + noWord,
		"relu(x)": "0: " + noNumber, "relu(0,)": "0: " + noNumber, "relu(0;1,)": "0: " + noNumber, "relu(0;;1)": "0: " + noNumber, "relu(0) relu(01)": "1: " + noNumber, "relu((0))": "0: " + noNumber, "relu(0;-0)": "0: " + noNumber, "const(x;y)": "0: " + noNumber,
		"const()": "0: " + noWord, "const(;)": "0: " + noWord, "const(;1)": "0: " + noWord, "const(;n[2]:1,x)": "0: " + noNumber, "relu(0) const(;n[2]:1,200)": "1: " + api.ErrRange.Error(), "const(;n[2]:1)": "0: " + api.ErrShape.Error(), "const(;n[-2]:1)": "0: " + api.ErrRange.Error(),
	} {
		if got, err := Graph(s); text(err) != want || len(got.Nodes) != 0 || got.Out != 0 {
			t.Error(s, got, err)
		}
	}
}

// script checks lines, each with its answers behind a tab, joined by |, or with ! and the error's text.
func script(t *testing.T, d *Desk, lines ...string) {
	t.Helper()
	for _, l := range lines {
		line, want, _ := strings.Cut(l, "\t")
		got, err := d.Line(line)
		answer := strings.Join(got, "|")
		if err != nil {
			answer = "!" + err.Error()
		}
		if answer != want || err != nil && got != nil {
			t.Errorf("%s: %s, not %s", line, answer, want)
		}
	}
}

// P30.2
func TestScript(t *testing.T) {
	d := New()
	script(t, d,
		"", "   ", "# a remark", "  #x y",
		"tenants\t!"+api.ErrNone.Error(), "step 1\t!"+api.ErrNone.Error(),
		"host 2000 busy", "tenants", "step 1\tnobody", "step 0",
		"admit 0 part 500 quantum 1024 queue 4",
		"graph 0 0 input(;0,2) add(0,0)\tok 3",
		"run 0 0 fuel 9 n[2]:5,100\tok 0", "run 0 0 fuel 1 n[2]:5,100\tok 1",
		"step 2\t0 used 2|0 #2 ok 2 n[2]:10,127|0 #3 error "+api.ErrFuel.Error()+"|nobody",
		"admit 3 part 600 quantum 2000 queue 2", "tenants\t0|3", "used 3\t0", "used 77\t0",
		"graph 3 1 input(;0,1) weight(;0,0,1) sub(0,1)\tok 3",
		"weight 0 2 n[1]:7\tok 78", "offer 0 2 to 3\tok 0", "accept 3 from 0 2 into 5\tok 0",
		"run 3 1 fuel 100 n[1]:50 with 5\tok 0", "run 3 1 fuel 100 n[1]:51 with 5 5\terror "+api.ErrShape.Error(), "revoke 0 2\tok 0", "run 3 1 fuel 100 n[1]:51 with 5\terror "+api.ErrStale.Error(),
		"step 1\t3 used 2|3 #3 ok 2 n[1]:43",
		"free 0 weight 2\tok 74", "free 0 weight 2\terror "+api.ErrNone.Error(), "free 0 plan 0\tok 0", "free 0 plan 0\terror "+api.ErrNone.Error(), "used 0\t0",
		"weight 9 0 n[]:1\terror "+api.ErrTag.Error(), "step 1\tnobody",
		"retire 0", "retire 0\t!"+api.ErrTenant.Error(), "tenants\t3", "free 0 plan 0\terror "+api.ErrTag.Error(),
		"admit 0 part 500 quantum 1024 queue 4", "weight 0 0 n[]:1\tok 2", "admit 0 part 500 quantum 1024 queue 4\t!"+api.ErrRange.Error(), "admit 1 part 5000 quantum 1024 queue 4\t!"+api.ErrRoom.Error(), "admit -1 part 5 quantum 1024 queue 4\t!"+api.ErrRange.Error(),
		"graph 0 0 input(;0)\tok 1", "run 0 0 fuel 1 n[]:6\tok 0", "step 1\t0 used 0|0 #3 ok 0 n[]:6", // its counters begin anew
		"host 0 fixed\t!"+api.ErrRange.Error(), "tenants\t0|3",
		"host 1000 fixed", "tenants", "admit 5 part 500 quantum 1024 queue 4", "admit 2 part 500 quantum 1024 queue 4", "step 3\t2 used 0|5 used 0|2 used 0",
	)
}

// P30.2
func TestCounters(t *testing.T) {
	d := New()
	script(t, d, "host 2000 busy", "admit 0 part 1000 quantum 1024 queue 4", "graph 0 0 input(;0)\tok 1")
	for i := range 30 {
		n := strconv.Itoa(i + 2)
		script(t, d, "run 0 0 fuel 0 n[]:6\tok 0", "step 1\t0 used 0|0 #"+n+" ok 0 n[]:6")
	}
}

// P30.2: numbers that go round.
func TestRound(t *testing.T) {
	d := New()
	script(t, d,
		"host 2000 busy", "admit 0 part 1000 quantum 1024 queue 4", "admit 1 part 1000 quantum 1024 queue 4",
		"weight 0 256 n[]:7\tok 2", "weight 0 -255 n[]:8\tok 4", "weight 0 16 n[]:8\terror "+api.ErrRange.Error(),
		"offer 0 512 to 257\tok 0", "accept 1 from 256 0 into 258\tok 0", "revoke 0 256\tok 0", "free 0 weight 257\tok 2",
		"graph 0 259 input(;0)\tok 1",
		"run 0 3 fuel 4294967296 n[]:1\tok 0", "run 0 3 fuel -4294967295 n[]:1\tok 1", "run 0 3 fuel 65537 n[]:1\terror "+api.ErrRange.Error(), "run 0 3 fuel -1 n[]:1\terror "+api.ErrRange.Error(),
		"run 0 3 fuel 1 n[]:1 with 1 2 3 4 5 6 7 8 9\terror "+api.ErrRange.Error(),
		"weight 256 0 n[]:7\terror "+api.ErrTag.Error(), "weight -1 0 n[]:7\terror "+api.ErrTag.Error(), "weight 9999999999 0 n[]:7\terror "+api.ErrTag.Error(),
	)
}

// P30.2: the errors, in order.
func TestLineRefuses(t *testing.T) {
	d := New()
	none := "!" + api.ErrNone.Error()
	script(t, d,
		"tenants\n\t!"+noWord, "\n\t!"+noWord, "#\n\t!"+noWord,
		"foo\t!"+noWord, "Tenants\t!"+noWord, "tenants 1\t!"+noWord, "used\t!"+noWord, "used 1 2\t!"+noWord, "step\t!"+noWord, "host 5\t!"+noWord, "host 5 quick\t!"+noWord, "host x quick\t!"+noWord, "host 5 busy 1\t!"+noWord,
		"admit 0 part 500 quantum 1024 queue\t!"+noWord, "admit x prt 500 quantum 1024 queue 4\t!"+noWord, "admit 0 part 500 quantum 1024 queue 4 5\t!"+noWord, "retire\t!"+noWord,
		"weight 0 0\t!"+noWord, "weight x 0 n[]:1 2\t!"+noWord, "graph 0 0\t!"+noWord, "graph 0\t!"+noWord, "run 0 0 fuel 9\t!"+noWord, "run 0 0 fule 9 n[]:1\t!"+noWord, "run 0 0 fuel 9 n[]:1 with\t!"+noWord, "run 0 0 fuel 9 n[]:1 wth 1\t!"+noWord, "run 0 0 fuel 9 n[]:1 1\t!"+noWord,
		"free 0 wight 1\t!"+noWord, "free 0 plan\t!"+noWord, "offer 0 0 1\t!"+noWord, "offer 0 0 for 1\t!"+noWord, "accept 0 from 1 2 3\t!"+noWord, "revoke 0\t!"+noWord,
		"host x busy\t!"+noNumber, "used x\t!"+noNumber, "used 01\t!"+noNumber, "used -0\t!"+noNumber, "used 12345678901\t!"+noNumber, "used -1234567890\t"+none, "step x\t!"+noNumber, "step 1001\t!"+noNumber, "step -1\t!"+noNumber, "step 1000\t"+none,
		"admit 0 part 500 quantum x queue 4\t!"+noNumber, "weight 0 x foo\t!"+noNumber, "graph x 0 foo\t!"+noNumber, "run 0 0 fuel x foo\t!"+noNumber, "run 0 0 fuel 9 foo with 1 x\t!"+noNumber, "free 0 plan x\t!"+noNumber, "accept 0 from x 2 into 3\t!"+noNumber,
		"weight 0 0 foo\t!"+noWord, "weight 0 0 n[]:x\t!"+noNumber, "weight 0 0 n[]:200\t!0: "+api.ErrRange.Error(), "weight 0 0 n[-1]:1\t!"+api.ErrRange.Error(), "weight 0 0 n[-1000]:1\t!"+noNumber, "run 0 0 fuel 9 foo\t!"+noWord, "run 0 0 fuel 9 n[2]:1 with 1\t!"+api.ErrShape.Error(),
		"graph 0 0 foo\t!0: "+noWord, "graph 0 0 input(;0) relu(x)\t!1: "+noNumber, "graph 0 0 relu(-1)\t!"+api.ErrRange.Error(), "graph 0 0 relu(0;9999999999)\t!"+api.ErrRange.Error(), "graph 0 0 relu(1,2,3,4,5,6,7,8,9)\t!"+api.ErrMany.Error(), "graph 0 0"+strings.Repeat(" input(;0)", 65)+"\t!"+api.ErrMany.Error(),
		"weight 0 0 n[]:1\t"+none, "graph 0 0 input(;0)\t"+none, "run 0 0 fuel 9 n[]:1\t"+none, "free 0 plan 1\t"+none, "offer 0 0 to 1\t"+none, "accept 0 from 1 2 into 3\t"+none, "revoke 0 1\t"+none, "retire 0\t"+none, "admit 0 part 500 quantum 1024 queue 4\t"+none, "used 1\t"+none,
	)
	if _, err := d.Line("tenants\t"); err != api.ErrWord {
		t.Error("a tab is no space", err)
	}
	big := "w[64x256]:" + strings.Repeat("0,", 1<<14-1) + "0"
	script(t, d, "host 1000000 busy", "admit 0 part 500000 quantum 1024 queue 4", "weight 0 0 "+big+"\t!"+api.ErrMany.Error(), "weight 1 0 "+big+"\terror "+api.ErrTag.Error(), "weight 0 0 n[]:1\tok 2")
}

// P30.3
func TestLines(t *testing.T) {
	d := New()
	seq := d.Lines("used 1\nhost 1000 busy\n\n# x\nadmit 0 part 500 quantum 1024 queue 4\ngraph 0 0 input(;0,2) add(0,0)\nfoo\nstep 2\ntenants")
	var got []string
	for a, err := range seq {
		if err != nil {
			a += "!" + err.Error()
		}
		got = append(got, a)
	}
	if !slices.Equal(got, []string{"!" + api.ErrNone.Error(), "ok 3", "!" + noWord, "nobody", "nobody", "0"}) {
		t.Error(got)
	}
	n := 0
	for range d.Lines("tenants\nstep 5\nretire 0") {
		if n++; n == 3 {
			break
		}
	}
	script(t, d, "tenants\t0")
	for range d.Lines("foo\nretire 0") {
		break
	}
	script(t, d, "tenants\t0")
	for a, err := range d.Lines("") {
		t.Error(a, err)
	}
}
