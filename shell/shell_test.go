package shell

import (
	"math/rand"
	"strings"
	"testing"
)

// plays checks a script against what it must print; both are lines with semicolons between.
func plays(t *testing.T, script, want string) {
	t.Helper()
	if out := Run(script); out != want {
		t.Errorf("%q\nprints %q\nnot    %q", script, out, want)
	}
}

func TestY1(t *testing.T) {
	plays(t, "set A1 2\nset B1 =A1*3\nshow B1\nevals\nvalue B1\nset C1 =1+\nshow Z9999\n", "ok\nok\n\"6\"\n1\nnumber 6\nerror 13\nerror 14\n")
	plays(t, "set A1 =B1\nset B1 =A1\nshow A1\nevals", "ok\nok\n\"#CYCLE!\"\n0\n")
	plays(t, "set A1 0.1\nset A2 =A1*3\nshow A2\nvalue A2\nlocale de\nshow A2", "ok\nok\n\"0.3\"\nnumber 0.30000000000000004\nok\n\"0,3\"\n")
	plays(t, "", "")
	plays(t, "\n\n#x\n# y\n#", "")
	plays(t, "nope\n A1\nSHOW A1\nset\nset \nshow\nshow a\nshow  A1\nclear ZZ1\nfoo A1", "error 19\nerror 19\nerror 19\nerror 3\nerror 3\nerror 3\nerror 3\nerror 3\nerror 14\nerror 19\n")
	plays(t, "show A1\r\nshow A1 x\nvalue $a$1\nentry A1\npattern A1\ncells\nevals\nvalue A1 y", "error 3\n\"\"\nempty\n\"\"\n\"\"\n\n0\nempty\n")
	plays(t, "new de\nset A1 1,5\nentry A1\nnew xx\nentry A1\nnew\nlocale\nlocale xx\nlocale en\nentry A1\nnew en\ncells\nnew  en", "ok\nok\n\"1,5\"\nerror 8\n\"1,5\"\nerror 8\nerror 8\nerror 8\nok\n\"1.5\"\nok\n\nerror 8\n")
	plays(t, "set B2 a b  c \nentry B2\nset A1\nset A2 \ncells\nclear B2 x\ncells\nclear B2", "ok\n\"a b  c \"\nok\nok\nB2\nok\n\nok\n")
	plays(t, "set A1 1234.5\nformat A1 #,##0.00\nshow A1\npattern A1\nformat A1 @!\nformat A1\npattern A1\nset b$2 é\"\nshow B2\ncells", "ok\nok\n\"1,234.50\"\n\"#,##0.00\"\nerror 12\nok\n\"\"\nok\n\"\\xc3\\xa9\\\"\"\nA1 B2\n")
	plays(t, "set A1 true\nvalue A1\nset A1 '\nvalue A1\nset A1 =1/0\nvalue A1\nset A1 x\\\nvalue A1\nset A1 1e400\nset A1 "+strings.Repeat("a", 1000)+"\nvalue A1", "ok\nbool TRUE\nok\ntext \"\"\nok\nerror #DIV/0!\nok\ntext \"x\\\\\"\nerror 2\nerror 4\ntext \"x\\\\\"\n")
}

func TestY1Files(t *testing.T) {
	file := "tabard 1\nlocale de\nA1 number 0.1\nB1 formula \"A1*2\"\nB1 value number 0.2\nend 2\n"
	plays(t, "save", "tabard 1\nlocale en\nend 0\n")
	plays(t, "load\n"+file+"show B1\nevals\nsave", "ok\n\"0,2\"\n1\n"+file)
	plays(t, "load\n"+strings.TrimSuffix(file, "\n"), "ok\n")
	plays(t, "load x\n"+file+"cells", "ok\nA1 B1\n")
	plays(t, "set A1 5\nload\ntabard 1\nlocale en\nA1 junk\nend 1\nshow A1", "ok\nerror 3 3\n\"5\"\n")
	plays(t, "load", "error 3 1\n")
	plays(t, "load\n", "error 3 1\n")
	plays(t, "load\n\n", "error 3 1\n")
	plays(t, "load\ntabard 1\nlocale xx\nend 0\nend 0", "error 8 2\nerror 19\n")
	plays(t, "load\ntabard 1\nlocale en\nend 1\nevals", "error 16 3\n0\n")
	plays(t, "load\ntabard 1\nlocale en\n# x\nend 0\n", "error 3 3\n")
	plays(t, "load\ntabard 1\nlocale en\nshow A1", "error 3 3\n")
	plays(t, strings.Repeat("#", 100001), "error 4\n")
	plays(t, strings.Repeat("#", 100000), "")
	plays(t, strings.Repeat("\n", 99995)+"evals", "0\n")
}

var commands = []string{
	"set A1 2", "set A1 0.1", "set B1 =A1*3", "set C1 =SUM(A1:B2)", "set A2 =B1", "set B1 =C1", "set A1 abc", "set A1 =1+", "set A2 1,5", "set B2 '5", "set C2 =IFERROR(C1,A1&\"x\")", "clear A1", "clear C1", "format A1 0.00", "format B1 #,##0.0;(0)", "format A1", "locale de", "locale sv", "locale en", "new fr", "new xx", "nope", "# x", "", "set ZZ1 5", "set B2 =1/0",
}

var looks = []string{"show A1", "show C1", "entry B1", "pattern A1", "value C2", "cells", "evals", "save", "value B1"}

func TestY2(t *testing.T) {
	r := rand.New(rand.NewSource(2))
	for range 300 {
		lines := []string{}
		quiet := []string{}
		loud := ""
		for range r.Intn(25) {
			line := commands[r.Intn(len(commands))]
			quiet = append(quiet, line)
			lines = append(lines, line)
			if r.Intn(2) == 0 {
				lines = append(lines, looks[r.Intn(len(looks))])
			}
		}
		all := Run(strings.Join(lines, "\n"))
		for n := range lines {
			if first := Run(strings.Join(lines[:n], "\n")); !strings.HasPrefix(all, first) {
				t.Fatal(lines, n)
			}
			if len(lines) > 10 {
				break
			}
		}
		for n, line := range lines {
			isLook := false
			for _, l := range looks {
				isLook = isLook || l == line
			}
			if !isLook {
				loud += Run(strings.Join(lines[:n+1], "\n"))[len(Run(strings.Join(lines[:n], "\n"))):]
			}
		}
		if out := Run(strings.Join(quiet, "\n")); out != loud {
			t.Fatal(lines, out, loud)
		}
		saved := Run(strings.Join(quiet, "\n") + "\nsave")[len(loud):]
		if again := Run("load\n" + saved + "save"); again != "ok\n"+saved {
			t.Fatalf("%q %q", saved, again)
		}
	}
}
