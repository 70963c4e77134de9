"""Point [31]: the texts of trees."""

import unittest

from knownways.errors import InvalidText
from knownways.treetexts import read_tree, show_tree
from knownways.trees import tree
from tests.claiming import Claiming
from tests.helpers import Case

KNOT = ("x", "f(x)", (), ())
DEEPER = ("x", "y", ("a", "m(x, y)", (), ("end(0, 3, x)", "x'", (), ())), ("b", "c", (), ()))
TEXT = """x <= y
  a <= m(x, y)
    so
  m(x, y) < a
    end(0, 3, x) <= x'
      so
    x' < end(0, 3, x)
      so
y < x
  b <= c
    so
  c < b
    so"""


class Shown(Case):

    def test_texts(self):
        self.assertEqual(show_tree(()), "so")
        self.assertEqual(show_tree(KNOT), "x <= f(x)\n  so\nf(x) < x\n  so")
        self.assertEqual(show_tree(DEEPER), TEXT)

    def test_trees_that_are_not_right(self):
        self.assertEqual(show_tree(("so", "so", (), ())), "so <= so\n  so\nso < so\n  so")
        self.assertEqual(show_tree(("x y", "1", (), ())), "x y <= 1\n  so\n1 < x y\n  so")

    def test_by_name(self):
        self.assertEqual(show_tree(told=KNOT), show_tree(KNOT))
        self.assertEqual(read_tree(text="so"), ())


class Read(Case):

    def test_texts(self):
        self.assertEqual(read_tree("so"), ())
        self.assertEqual(read_tree("x <= f(x)\n  so\nf(x) < x\n  so"), KNOT)
        self.assertEqual(read_tree(TEXT), DEEPER)

    def test_tuples_and_strings_only(self):
        def check(value):
            self.assertIs(type(value), tuple)
            if value:
                self.assertEqual([type(side) for side in value[:2]], [str, str])
                check(value[2])
                check(value[3])

        check(read_tree(TEXT))

    def test_terms_of_all_kinds(self):
        for one in ("x", "so", "if", "m(x, y)", "X", "1", "a  b", "f(x", ",", "x'", "end(0, 0, x)", "&", ">", "-", "\\", "'", "#"):
            for other in ("y", "so", "g(z) - a"):
                for value in ((one, other, (), ()), (other, one, KNOT, ()), ("x", "x", (one, other, KNOT, KNOT), (other, one, (), ()))):
                    self.assertEqual(read_tree(show_tree(value)), value)

    def test_each_reads_what_the_other_writes(self):
        seen = 0
        for seed in range(200):
            making = Claiming(seed, names=("x", "y", "z"), weight=7)
            claim = making.claim()
            shown = tree(claim, making.traits(claim))
            if shown is not None:
                text = show_tree(shown)
                self.assertEqual(read_tree(text), shown)
                self.assertEqual(show_tree(read_tree(text)), text)
                seen += len(text) > 50
        self.assertGreater(seen, 20)

    def test_deep_trees(self):
        value = ()
        for _ in range(60):
            value = ("x", "y", value, ())
        self.assertEqual(read_tree(show_tree(value)), value)
        for _ in range(40):
            value = ("x", "y", (), value)
        self.assertEqual(read_tree(show_tree(value)), value)


class Refused(Case):

    def check_refused(self, at, text):
        self.check_error(InvalidText, at, read_tree, text)

    def test_first_lines(self):
        for line in ("", " ", " so", "so ", "So", "s", "sos", "x", "x <=", "<= x", "x <= ", " <= x", "x <=y", "x<= y", "x<=y", "x < y",
                     "x == y", "x = y", "x >= y", "x <=  y", "x  <= y", " x <= y", "x <= y ", "x <= y <= z", "x <= y = z",
                     "x < y <= z", "x <= y < z", "< <= x", "x <= <", "x <= =", "= <= x", " <= ", "x <= y <=", "x => y", "()",
                     "x y", "so so", "so <=", "<=", "x <= a<b", "x <= a=b", "x<=a <= y", "  so", "  x <= y", "\tso"):
            self.check_refused(0, line)
            self.check_refused(0, line + "\n  so\ny < x\n  so")

    def test_lines_lack(self):
        lines = TEXT.split("\n")
        for count in range(1, len(lines)):
            self.check_refused(count, "\n".join(lines[:count]))

    def test_lines_too_many(self):
        for text in ("so", TEXT):
            count = len(text.split("\n"))
            for more in ("", "so", "  so", "x <= y", "y < x", "x <= y\n  so\ny < x\n  so", " "):
                self.check_refused(count, text + "\n" + more)

    def test_each_line_spoilt(self):
        lines = TEXT.split("\n")
        for at, line in enumerate(lines):
            for spoilt in (" " + line, "  " + line, line + " ", line[1:] if line[0] == " " else "", "", line.strip(" ") + "x<",
                           line.replace("<", "="), line + "\n", "x", line.replace(" <", "<"), "  " * 9 + "so", line.upper() + "="):
                if spoilt != line:
                    self.check_refused(at + (spoilt == line + "\n"), "\n".join([*lines[:at], spoilt, *lines[at + 1:]]))

    def test_the_second_comparison(self):
        for second in ("x < f(x)", "f(x) <= x", "f(x)  < x", "f(x) < x ", " f(x) < x", "f(x) < y", "f(y) < x", "x <= f(x)", "so", "f(x) > x",
                       "f(x) < xx", "f(x) <x", "f(x)< x", ""):
            self.check_refused(2, f"x <= f(x)\n  so\n{second}\n  so")
            self.check_refused(3, f"a <= b\n  x <= f(x)\n    so\n  {second}\n    so\nb < a\n  so")

    def test_lines_left_out(self):
        lines = TEXT.split("\n")
        for at in range(len(lines)):
            rest = [*lines[:at], *lines[at + 1:]]
            with self.assertRaises(InvalidText) as caught:
                read_tree("\n".join(rest))
            self.assertEqual(vars(caught.exception), {"at": at})

    def test_lines_exchanged(self):
        lines = TEXT.split("\n")
        for at in range(len(lines) - 1):
            self.check_refused(at, "\n".join([*lines[:at], lines[at + 1], lines[at], *lines[at + 2:]]))

    def test_a_line_twice(self):
        for at, expected in ((0, 1), (1, 2), (2, 3), (4, 5), (8, 9), (12, 13)):
            lines = TEXT.split("\n")
            self.check_refused(expected, "\n".join([*lines[:at + 1], *lines[at:]]))


if __name__ == "__main__":
    unittest.main()
