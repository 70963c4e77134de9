"""Points [11] and [14]: reading the texts of programs."""

import re
import unittest

from knownways.errors import InvalidText
from knownways.exprreader import read_expr
from knownways.exprs import named
from knownways.programs import Program
from knownways.reader import read
from knownways.rows import If, Lower, Put, Raise, Refuse, Still
from knownways.steps import Step
from knownways.words import is_name
from tests.helpers import F, G, H, K, Case, texts_that_are_no_names
from tests.making import STEPS, Making

M = Step("m", "++")
ALL = [F, G, H, K, M]
LINES = ["x = f(y)", "x |= f(y)", "y &= h(x, g(x))", "refuse no", "if x <= f(y)", "else", "end", "still", "x |= m(x, y)"]

CHOICE = "if x <= f(y)\ny |= f(x)\nelse\nrefuse no\nend"
LOOP = "still\nx |= f(y)\ny |= m(x, z)\nend"
DEEP = ("x = y\nif g(x) <= h(y, x)\nif x <= y\nif y <= x\nstill\nx |= f(x)\nend\nelse\nx &= lesser(x, y)\nend\n"
        "else\nrefuse b\nend\nelse\nif x <= x\nend\nend\nrefuse a")


def sides_are_read(line, pattern, steps):
    """Whether the line has this pattern, in which all groups are expressions."""
    match = re.fullmatch(pattern, line)
    try:
        return match is not None and all([read_expr(group, steps) for group in match.groups()])
    except InvalidText:
        return False


def is_plain(line, steps):
    """Whether the line is that of a row without a block."""
    if re.fullmatch("refuse [a-z]{1,4}", line):
        return is_name(line[7:])
    return is_name(line.split(" ")[0]) and sides_are_read(line, r"[a-z]{1,4} (?:=|\|=|&=) (.*)", steps)


def may_loop(line, steps):
    """Whether the line is that of a row of a loop."""
    rising = {step.name: len(step) for step in steps if set(step.ways) == {"+"}}
    match = re.fullmatch(r"([a-z]{1,4}) \|= ([a-z]{1,4})\(([a-z, ]*)\)", line)
    if not match or not is_name(match[1]):
        return False
    names = match[3].split(", ")
    return all([is_name(name) for name in names]) and rising.get(match[2]) == len(names)


def bad_line(text, steps):
    """The number of the line that is refused, or None: by what blocks are open, without reading rows."""
    lines = text.split("\n") if text else []
    opened = []
    for at, line in enumerate(lines):
        inside = opened[-1][0] if opened else ""
        if line == "end":
            if not opened or (inside == "still" and opened[-1][1] not in (1, 2, 3)):
                return at
            opened.pop()
        elif line == "else":
            if inside != "if":
                return at
            opened[-1][0] = "else"
        elif inside == "still":
            if not may_loop(line, steps):
                return at
            opened[-1][1] += 1
        elif line == "still" or sides_are_read(line, "if ([^<]*) <= ([^<]*)", steps):
            opened.append(["still" if line == "still" else "if", 0])
        elif not is_plain(line, steps):
            return at
    return len(lines) if opened else None


class Reading(Case):

    def check_read(self, text, rows, steps=tuple(ALL)):
        self.check_equal(read(text, steps), Program(rows))
        self.check_equal(read(text, list(steps)), Program(rows))

    def check_refused(self, text, at, steps=tuple(ALL)):
        self.check_error(InvalidText, at, read, text, steps)

    def check_text(self, text, steps=tuple(ALL)):
        """It is read or refused as the lines of it tell."""
        at = bad_line(text, steps)
        if at is None:
            self.assertEqual(str(read(text, steps)), text.replace("\nelse\nend", "\nend"))
        else:
            self.check_refused(text, at, steps)


class Read(Reading):

    def test_the_empty_program(self):
        self.check_read("", [])
        self.check_read("", [], ())

    def test_each_kind_of_row(self):
        self.check_read("x = f(y)", [Put("x", F("y"))])
        self.check_read("x |= f(y)", [Raise("x", F("y"))])
        self.check_read("x &= f(y)", [Lower("x", F("y"))])
        self.check_read("x = y", [Put("x", "y")])
        self.check_read("abcd &= lesser(x, greater(y, h(x, y)))", [Lower("abcd", named("x") & ("y" | H("x", "y")))])
        self.check_read("refuse w", [Refuse("w")])
        self.check_read("refuse abcd", [Refuse("abcd")])
        self.check_read("if x <= f(y)\nend", [If("x", F("y"), [])])
        self.check_read(CHOICE, [If("x", F("y"), [Raise("y", F("x"))], [Refuse("no")])])
        self.check_read("still\nx |= f(y)\nend", [Still([Raise("x", F("y"))])])
        self.check_read(LOOP, [Still([Raise("x", F("y")), Raise("y", M("x", "z"))])])
        self.check_read("still\nx |= f(y)\nx |= f(y)\nx |= f(x)\nend",
                        [Still([Raise("x", F("y")), Raise("x", F("y")), Raise("x", F("x"))])])

    def test_rows_one_after_the_other(self):
        self.check_read("x = y\ny = x", [Put("x", "y"), Put("y", "x")])
        self.check_read("refuse a\nx = y\n" + CHOICE + "\n" + CHOICE + "\nx &= y",
                        [Refuse("a"), Put("x", "y"), *read(CHOICE, ALL).rows, *read(CHOICE, ALL).rows, Lower("x", "y")])

    def test_blocks_three_deep(self):
        inner = If("y", "x", [Still([Raise("x", F("x"))])], [Lower("x", named("x") & "y")])
        self.check_read(DEEP, [Put("x", "y"), If(G("x"), H("y", "x"), [If("x", "y", [inner], [Refuse("b")])],
                                                 [If("x", "x", [])]), Refuse("a")])

    def test_else_with_and_without_rows(self):
        put, other = Put("x", "y"), Put("y", "x")
        self.check_read("if x <= y\nelse\nend", [If("x", "y", [])])
        self.check_read("if x <= y\nx = y\nelse\nend", [If("x", "y", [put])])
        self.check_read("if x <= y\nelse\ny = x\nend", [If("x", "y", [], [other])])
        self.check_read("if x <= y\nx = y\nx = y\nelse\ny = x\ny = x\nend", [If("x", "y", [put] * 2, [other] * 2)])
        self.check_read("if x <= y\nelse\nif y <= x\nelse\nend\nend", [If("x", "y", [], [If("y", "x", [])])])
        self.assertEqual(str(read("if x <= y\nx = y\nelse\nend", [])), "if x <= y\nx = y\nend")

    def test_names_steps_and_words_called_alike(self):
        self.check_read("f = f(f)\nrefuse f", [Put("f", F("f")), Refuse("f")])
        self.check_read("if f <= f(f)\nstill\nf |= f(f)\nend\nend", [If("f", F("f"), [Still([Raise("f", F("f"))])])])
        steps = [Step(name, "+") for name in ("elif", "els", "en", "put")]
        self.check_read("elif = elif(en)\nels = els(els)\nen &= en(put)\nrefuse els",
                        [Put("elif", steps[0]("en")), Put("els", steps[1]("els")), Lower("en", steps[2]("put")),
                         Refuse("els")], steps)

    def test_each_program_from_its_own_text(self):
        for seed in range(300):
            program = Making(seed).program()
            self.check_equal(read(str(program), STEPS), program)
            self.check_equal(read(str(program), program.steps), program)
            self.check_equal(read(str(program), tuple(STEPS[::-1])), program)

    def test_each_row_from_its_own_text(self):
        for seed in range(100):
            row = Making(seed).row()
            self.check_equal(read(str(row), STEPS), Program([row]))

    def test_the_steps_are_those_passed(self):
        for ways in ("+", "-", "?"):
            program = read("x = f(y)\nif f(x) <= y\nend", [G, Step("f", ways), M])
            self.assertEqual(program.steps, (Step("f", ways),))
        self.check_equal(read("x = f(f(y))", [F, Step("f", "+")]), Program([Put("x", F(F("y")))]))
        self.check_refused("x = f(y)", 0, ())
        self.check_refused("x = y\nx = f(y)", 1, (G, H))
        self.check_refused("x = f(y)", 0, [Step("f", "++")])

    def test_a_loop_row_has_a_step_that_rises(self):
        for ways in ("+", "++", "+++"):
            text = "still\nx |= a(" + ", ".join("xyz"[:len(ways)]) + ")\nend"
            self.assertEqual(str(read(text, [Step("a", ways)])), text)
        for ways in ("-", "?", "+-", "-+", "+?", "--", "++-", "?++", "???"):
            text = "still\nx |= a(" + ", ".join("xyz"[:len(ways)]) + ")\nend"
            self.check_refused(text, 1, [Step("a", ways)])

    def test_arguments_by_name(self):
        self.check_equal(read(steps=ALL, text=CHOICE), read(CHOICE, ALL))
        self.check_error(InvalidText, 1, read, steps=(), text="x = y\nx")

    def test_the_arguments_stay_and_may_change_afterwards(self):
        steps = list(ALL)
        program = read(DEEP, steps)
        self.assertEqual(steps, ALL)
        steps.clear()
        self.check_equal(program, read(DEEP, ALL))
        self.assertEqual(str(program), DEEP)

    def test_at_the_limits(self):
        text = "\n".join(["if x <= y"] * 19 + ["x = y"] + ["end"] * 19)
        self.assertEqual((str(read(text, [])), len(read(text, []))), (text, 20))
        text = "\n".join(["if x <= y", "else"] * 13 + ["x = y"] + ["end"] * 13)
        self.assertEqual((str(read(text, [])), len(read(text, []))), (text, 14))
        self.check_refused("\n".join(["if x <= y"] * 40), 40)
        self.check_refused("\n".join(["if x <= y"] * 39 + ["end"]), 40)
        self.check_refused("\n".join(["if x <= y"] * 10 + ["end"] * 11), 20)
        text = "\n".join(["x = f(y)"] * 40)
        self.check_equal(read(text, ALL), Program([Put("x", F("y"))] * 40))
        self.check_refused(text + "\n", 40)
        text = "if " + "f(" * 40 + "x" + ")" * 40 + " <= " + "g(" * 40 + "y" + ")" * 40
        self.assertEqual(str(read(text + "\nend", ALL)), text + "\nend")
        self.check_refused(text + ")\nend", 0)
        self.check_refused("x = " + "f(" * 40, 0)
        self.check_refused("x" * 1000, 0)
        self.check_refused("\n" * 39, 0)


class Refused(Reading):

    def test_no_line_of_a_row(self):
        for line in ["", " ", "x", "=", "x =", "x = ", "= y", " = y", "x = y ", " x = y", "x  = y", "x =  y", "x=y",
                     "x =y", "x= y", "x == y", "x <= y", "x < y", "x |=", "x |= ", "x | = y", "x |y", "x || y", "x ^= y",
                     "x += y", "x -= y", "x := y", "x & = y", "X = y", "x1 = y", "abcde = y", "if = y", "else = y",
                     "end = y", "f(x) = y", "(x) = y", "x = y = z", "x, y = z", "x = if", "x = abcde", "x = y, z",
                     "x = (y)", "x = x & y", "x = x | y", "x = x <= y", "x = g (x)", "x = f(x, y)", "x = e(x)",
                     "refuse", "refuse ", "refuse  w", "refuse w ", " refuse w", "refuse if", "refuse else",
                     "refuse end", "refuse abcde", "refuse W", "refuse a b", "refuse f(x)", "refuse 1", "Refuse w",
                     "refuses w", "refuse = x", "refuse |= x", "still = x", "if", "if ", "if x", "if x <=", "if x <= ",
                     "if  <= y", "if <= y", "if x < y", "if x == y", "if x >= y", "if x<=y", "if x <=y", "if x<= y",
                     "if x  <= y", "if x <=  y", "if  x <= y", "if x <= y ", " if x <= y", "if x <= y:", "if x <= y <= z",
                     "if x <= <= y", "ifx <= y", "If x <= y", "if (x) <= y", "if x = y", "if e(x) <= y", "if x <= e(y)",
                     "still ", " still", "Still", "stil", "stills", "end ", " end", "End", "ends x", "else ", " else",
                     "Else", "else if x <= y", "elif x <= y", "# x", "pass", "x = y; y = x", "while x <= y", "x = f(y)\t"]:
            self.check_refused(line + "\nx = y", 0)
            self.check_refused("x = y\n" + line, 1)
            self.check_refused("x = y\n" + CHOICE + "\n" + line + "\nx", 6)
            self.check_refused("if x <= y\n" + line + "\nend", 1)
            self.check_refused("if x <= y\nx = y\nelse\n" + line + "\nend\nx", 3)
            self.check_refused("still\nx |= f(y)\n" + line + "\nend\nx", 2)
            if line:
                self.check_refused(line, 0)

    def test_names_that_are_none(self):
        for text in texts_that_are_no_names():
            if "\n" not in text and text != "f(x)":
                for line in (text + " = x", text + " |= f(x)", "refuse " + text, "x = f(" + text + ")"):
                    self.check_refused(line, 0)
                    self.check_refused("if x <= y\n" + line + "\nend", 1)
                    self.check_refused("still\n" + line + "\nend", 1)

    def test_else_and_end_without_their_block(self):
        for text, at in (("else", 0), ("end", 0), ("x = y\nend", 1), ("x = y\nelse\nend", 1), ("end\nx", 0),
                         (CHOICE + "\nend", 5), (CHOICE + "\nelse", 5), (LOOP + "\nend", 4), (LOOP + "\nelse\nend", 4),
                         ("if x <= y\nelse\nelse\nend", 2), ("if x <= y\nx = y\nelse\nx = y\nelse\nx = y\nend", 4),
                         ("if x <= y\nend\nend", 2), ("if x <= y\nend\nelse\nend", 2), ("still\nelse\nend", 1),
                         ("still\nx |= f(y)\nelse\nend", 2), ("still\nx |= f(y)\nelse\nx |= f(y)\nend", 2),
                         ("if x <= y\nif x <= y\nelse\nelse\nend\nend", 3)):
            self.check_refused(text, at)
        self.check_read("if x <= y\nif x <= y\nelse\nend\nelse\nend", [If("x", "y", [If("x", "y", [])])])

    def test_no_end(self):
        for text, many in (("if x <= y", 1), ("still", 1), ("if x <= y\nx = y", 2), ("still\nx |= f(y)", 2),
                           ("if x <= y\nelse", 2), ("if x <= y\nelse\nx = y", 3), ("if x <= y\nif x <= y\nend", 3),
                           ("if x <= y\nstill\nx |= f(x)\nend", 4), ("if x <= y\nstill\nx |= f(x)", 3),
                           ("x = y\nif x <= y\nelse\nif x <= y\nelse\nend", 6), (CHOICE + "\nstill", 6),
                           ("still\nx |= f(y)\nx |= f(y)\nx |= f(y)\nx |= f(y)", 5)):
            self.check_refused(text, many)

    def test_a_line_ahead_of_a_missing_end(self):
        self.check_refused("if x <= y\nx\nx = y", 1)
        self.check_refused("if x <= y\nstill\nend", 2)
        self.check_refused("still\nx = y", 1)
        self.check_refused("if x <= y\n", 1)
        self.check_refused("still\nx |= f(y)\n", 2)

    def test_no_rows_of_a_loop(self):
        for line in ("x = f(y)", "x &= f(y)", "x |= y", "x |= g(y)", "x |= f(f(y))", "x |= h(x, y)", "x |= k(x, y, z)",
                     "x |= lesser(x, y)", "x |= greater(f(x), y)", "x |= m(x, f(y))", "x |= m(f(y), x)", "refuse no",
                     "still", "if x <= y", "else"):
            self.check_refused("still\n" + line + "\nend", 1)
            self.check_refused("still\n" + line + "\nend\nend", 1)
            self.check_refused("still\nx |= f(y)\nx |= f(y)\n" + line + "\nend", 3)
            self.check_refused("still\nx |= f(y)\nx |= f(y)\nx |= f(y)\n" + line + "\nend", 4)
            self.check_refused("if x <= y\nstill\n" + line, 2)

    def test_no_rows_or_more_than_three_in_a_loop(self):
        self.check_refused("still\nend", 1)
        self.check_refused("x = y\nstill\nend\nx", 2)
        for many in (4, 5, 9):
            text = "still\n" + "x |= f(y)\n" * many + "end"
            self.check_refused(text, many + 1)
            self.check_refused(text + "\nx", many + 1)
            self.check_refused("if x <= y\n" + text + "\nend", many + 2)

    def test_a_line_feed_at_the_end(self):
        for text in ("x = y", CHOICE, LOOP, DEEP):
            self.check_refused(text + "\n", len(text.split("\n")))
            self.check_refused("\n" + text, 0)
        self.check_refused("\n", 0)
        self.check_refused("\n\n", 0)
        self.check_refused("x = y\n\ny = x", 1)

    def test_the_first_line_is_told(self):
        self.check_refused("x\ny\nz", 0)
        self.check_refused("x = y\ny\nz", 1)
        self.check_refused("end\nelse", 0)
        self.check_refused("still\nend\nend", 1)
        self.check_refused("if x <= e(x)\nx", 0)


class Spoilt(Reading):

    def test_signs(self):
        for text in (CHOICE, LOOP, "x &= h(y, g(z))\nrefuse abc\nif lesser(x, y) <= y\nelse\nend"):
            for at in range(len(text) + 1):
                self.check_text(text[:at] + text[at + 1:])
                for sign in " xf(),=|&<\n":
                    self.check_text(text[:at] + sign + text[at:])
                    self.check_text(text[:at] + sign + text[at + 1:])

    def test_words(self):
        for text in (CHOICE, LOOP, DEEP):
            words = re.split("([ \n])", text)
            for at in range(len(words)):
                self.check_text("".join(words[:at] + words[at + 1:]))
                self.check_text("".join(words[:at] + words[at + 2:]))
                self.check_text("".join(words[:at + 1] + words[at:]))
                for to in range(at):
                    self.check_text("".join(words[:to] + [words[at]] + words[to + 1:at] + [words[to]] + words[at + 1:]))

    def test_lines(self):
        for text in (CHOICE, LOOP, DEEP, CHOICE + "\n" + LOOP):
            lines = text.split("\n")
            for at, line in enumerate(lines):
                rest = lines[:at] + lines[at + 1:]
                self.check_text("\n".join(rest))
                self.check_text("\n".join(lines[:at]))
                self.check_text("\n".join(lines[at:]))
                self.check_text("\n".join(lines[:at] + [line] + lines[at:]))
                for to in range(len(lines)):
                    self.check_text("\n".join(rest[:to] + [line] + rest[to:]))
                for to in range(at):
                    self.check_text("\n".join(lines[:to] + [line] + lines[to + 1:at] + [lines[to]] + lines[at + 1:]))
                for other in (" " + line, line + " ", line[1:], line[:-1], "", " "):
                    self.check_text("\n".join(lines[:at] + [other] + lines[at + 1:]))

    def test_lines_that_do_not_belong(self):
        for text in (CHOICE, LOOP, DEEP, CHOICE + "\n" + LOOP):
            lines = text.split("\n")
            for at in range(len(lines) + 1):
                for line in LINES:
                    self.check_text("\n".join(lines[:at] + [line] + lines[at:]))
                    self.check_text("\n".join(lines[:at] + [line] + lines[at + 1:]))

    def test_all_texts_of_few_lines(self):
        kinds = ["x = y", "x |= f(y)", "if x <= y", "else", "end", "still"]
        texts = [""]
        for _ in range(5):
            texts = [text + line + "\n" for text in texts for line in kinds]
            for text in texts:
                self.check_text(text[:-1])


if __name__ == "__main__":
    unittest.main()
