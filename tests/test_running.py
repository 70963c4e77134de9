"""Points [11] and [17]: runs of programs in worlds, and how they end."""

import re
import unittest
from itertools import product

from knownways.errors import InvalidStart, NoName, NoStep
from knownways.programs import Program
from knownways.reader import read
from knownways.rows import If, Lower, Put, Raise, Refuse, Still
from knownways.running import Ending, run
from knownways.steps import Step
from knownways.worlds import World
from tests.helpers import F, Case, anything
from tests.making import Making, applied

U, D, M = Step("u", "+"), Step("d", "-"), Step("m", "++")
WORLD = World(4, [(U, (1, 2, 3, 3)), (D, (3, 2, 1, 0)),
                  (M, ((0, 0, 0, 0), (0, 1, 1, 1), (0, 1, 2, 2), (0, 1, 2, 3)))])
STEPS = [U, D, M]


def in_python(expr):
    """The text of an expression as Python works it out."""
    return re.sub(r"([a-z]+)(\(?)", lambda match: f"of_{match[1]}(" if match[2] else f"held['{match[1]}']", expr)


def rows_in_python(program):
    """The lines of a Python function that does what the lines of the program tell."""
    rows, opened, at = ["def done(held):"], [], 0
    for line in str(program).split("\n") if len(program) else []:
        indent = "    " * (len(opened) + 1)
        words = line.split(" ", 2)
        if line in ("else", "end"):
            if line == "end" and opened.pop() == "still":
                rows.append(indent + "if before == held: break")
            rows += [indent[4:] + "else:", indent + "pass"] if line == "else" else []
            continue
        if line == "still":
            rows += [indent + "while True:", indent + "    before = dict(held)"]
        elif words[0] == "if":
            left, right = [in_python(side) for side in line[3:].split(" <= ")]
            rows += [f"{indent}if {left} <= {right}:", indent + "    pass"]
        elif words[0] == "refuse":
            rows.append(f"{indent}return '{words[1]}', {at}")
        else:
            name, worth = f"held['{words[0]}']", in_python(words[2])
            before = {"=": worth, "|=": f"max({name}, {worth})", "&=": f"min({name}, {worth})"}
            rows.append(f"{indent}{name} = {before[words[1]]}")
        opened += [words[0]] if words[0] in ("if", "still") else []
        at += 1
    return rows + ["    return None, None"]


def done(program, world, start):
    """How the run ends, as Python does it."""
    known = {"of_" + step.name: applied(world[step]) for step in world.steps}
    known.update({"of_lesser": min, "of_greater": max})
    exec("\n".join(rows_in_python(program)), known)
    held = dict(start)
    return (*known["done"](held), held)


class Running(Case):

    def check_run(self, program, start, held, refused=None, at=None, world=WORLD):
        """The run of these rows, or of this text, ends so; the start stays."""
        told = read(program, STEPS) if isinstance(program, str) else Program(program)
        kept = dict(start)
        end = run(told, world, start)
        self.assertIsInstance(end, Ending)
        self.assertEqual((end.refused, end.at, end.held), (refused, at, held))
        self.assertEqual(list(start.items()), list(kept.items()))


class Rows(Running):

    def test_no_rows(self):
        self.check_run("", {}, {})
        self.check_run("", {"x": 3, "a": 0}, {"x": 3, "a": 0})

    def test_put(self):
        self.check_run("x = u(y)", {"x": 3, "y": 0}, {"x": 1, "y": 0})
        self.check_run("x = y", {"x": 3, "y": 0}, {"x": 0, "y": 0})
        self.check_run("x = u(x)", {"x": 1}, {"x": 2})
        self.check_run("x = u(x)\nx = u(x)\ny = d(x)", {"x": 0, "y": 3}, {"x": 2, "y": 1})
        self.check_run("x = y\ny = x", {"x": 1, "y": 2}, {"x": 2, "y": 2})

    def test_raise(self):
        self.check_run("x |= y", {"x": 1, "y": 2}, {"x": 2, "y": 2})
        self.check_run("x |= y", {"x": 2, "y": 1}, {"x": 2, "y": 1})
        self.check_run("x |= d(x)", {"x": 1}, {"x": 2})
        self.check_run("x |= d(x)", {"x": 3}, {"x": 3})

    def test_lower(self):
        self.check_run("x &= y", {"x": 1, "y": 2}, {"x": 1, "y": 2})
        self.check_run("x &= y", {"x": 2, "y": 1}, {"x": 1, "y": 1})
        self.check_run("x &= d(x)", {"x": 1}, {"x": 1})
        self.check_run("x &= d(x)", {"x": 3}, {"x": 0})

    def test_refuse(self):
        self.check_run("refuse no", {}, {}, "no", 0)
        self.check_run("refuse no", {"x": 2}, {"x": 2}, "no", 0)
        self.check_run("x = y\nrefuse a\nx = u(x)\nrefuse b", {"x": 3, "y": 0}, {"x": 0, "y": 0}, "a", 1)
        self.check_run("refuse x\nx = y", {"x": 3, "y": 0}, {"x": 3, "y": 0}, "x", 0)

    def test_if(self):
        text = "if x <= y\nx = u(x)\nelse\ny = u(y)\nend"
        self.check_run(text, {"x": 0, "y": 1}, {"x": 1, "y": 1})
        self.check_run(text, {"x": 1, "y": 1}, {"x": 2, "y": 1})
        self.check_run(text, {"x": 2, "y": 1}, {"x": 2, "y": 2})
        self.check_run("if u(x) <= y\nend\nx = y", {"x": 0, "y": 3}, {"x": 3, "y": 3})
        self.check_run("if u(x) <= y\nx = y\nend", {"x": 3, "y": 2}, {"x": 3, "y": 2})
        self.check_run("if x <= y\nelse\nx = y\nend", {"x": 3, "y": 2}, {"x": 2, "y": 2})

    def test_both_sides_are_worked_out_ahead(self):
        self.check_run("if x <= y\nx = u(y)\nx = u(x)\nelse\nrefuse no\nend", {"x": 0, "y": 1}, {"x": 3, "y": 1})

    def test_still(self):
        self.check_run("still\nx |= u(x)\nend", {"x": 0}, {"x": 3})
        self.check_run("still\nx |= u(y)\nend", {"x": 0, "y": 0}, {"x": 1, "y": 0})
        self.check_run("still\nx |= u(y)\nend", {"x": 2, "y": 0}, {"x": 2, "y": 0})
        self.check_run("still\nx |= u(y)\ny |= u(x)\nend", {"x": 0, "y": 0}, {"x": 3, "y": 3})
        self.check_run("still\nx |= m(x, y)\ny |= m(x, z)\nz |= u(z)\nend", {"x": 2, "y": 0, "z": 1},
                       {"x": 2, "y": 2, "z": 3})
        self.check_run("still\nx |= u(y)\ny |= u(z)\nend\nrefuse no", {"x": 0, "y": 0, "z": 1},
                       {"x": 3, "y": 2, "z": 1}, "no", 3)

    def test_rows_against_the_stream(self):
        text = "still\na |= u(b)\nb |= u(c)\nc |= u(d)\nend"
        self.check_run(text, {"a": 0, "b": 0, "c": 0, "d": 0}, {"a": 3, "b": 2, "c": 1, "d": 0})
        self.check_run(text, {"a": 0, "b": 3, "c": 0, "d": 0}, {"a": 3, "b": 3, "c": 1, "d": 0})

    def test_many_rounds(self):
        for size in range(1, 17):
            world = World(size, [(U, [min(at + 1, size - 1) for at in range(size)]), (F, [0] * size)])
            end = {"x": size - 1}
            self.check_run([Still([Raise("x", U("x"))])], {"x": 0}, end, world=world)
            self.check_run([Still([Raise("x", F("x")), Raise("x", U("y")), Raise("y", U("x"))])], {"x": 0, "y": 0},
                           {**end, "y": size - 1}, world=world)
            self.check_run([Still([Raise("x", F("x"))])], {"x": 0}, {"x": 0}, world=world)

    def test_a_loop_that_waits_for_one_row(self):
        step = Step("w", "++")
        table = [[0] * 4, [0, 1, 1, 1], [0, 1, 3, 3], [0, 1, 3, 3]]
        world = World(4, [(step, table), (U, (0, 2, 2, 3))])
        rows = [Raise("x", step("y", "y")), Raise("y", U("z")), Raise("z", step("z", "y"))]
        self.check_run([Still(rows)], {"x": 0, "y": 0, "z": 1}, {"x": 3, "y": 2, "z": 1}, world=world)
        self.check_run([Still(rows)], {"x": 0, "y": 0, "z": 2}, {"x": 3, "y": 3, "z": 3}, world=world)

    def test_refusals_within_blocks(self):
        text = ("if x <= y\nif y <= x\nrefuse a\nelse\nx = y\nend\nelse\nstill\ny |= u(y)\nend\nif x <= y\nrefuse b\nend\n"
                "refuse c\nend\nrefuse d")
        self.check_run(text, {"x": 1, "y": 1}, {"x": 1, "y": 1}, "a", 2)
        self.check_run(text, {"x": 0, "y": 1}, {"x": 1, "y": 1}, "d", 9)
        self.check_run(text, {"x": 1, "y": 0}, {"x": 1, "y": 3}, "b", 7)
        self.check_run("if x <= y\nelse\nrefuse c\nend\nrefuse d", {"x": 1, "y": 0}, {"x": 1, "y": 0}, "c", 1)
        self.check_run("if x <= y\nx = y\nx = y\nelse\nrefuse c\nend\nrefuse d", {"x": 0, "y": 1}, {"x": 1, "y": 1}, "d", 4)

    def test_more_names_than_needed(self):
        self.check_run("x = u(y)", {"b": 2, "x": 0, "y": 1, "a": 3}, {"b": 2, "x": 2, "y": 1, "a": 3})
        self.check_run("refuse no", {"b": 2}, {"b": 2}, "no", 0)

    def test_more_steps_than_needed(self):
        self.check_run("x = d(x)", {"x": 0}, {"x": 3})
        self.check_run("x = x", {"x": 0}, {"x": 0}, world=World(1, []))


class Against(Running):

    def check_same(self, program, world, start):
        refused, at, held = done(program, world, start)
        self.check_run(program.rows, start, held, refused, at, world)

    def test_programs_of_all_kinds(self):
        for seed in range(400):
            making = Making(seed)
            program, size = making.program(), 1 + seed % 4
            world = making.world(size)
            for _ in range(4):
                self.check_same(program, world, making.start(size))

    def test_loops_of_all_kinds(self):
        for seed in range(300):
            making = Making(seed)
            loop, size = Program([making.loop()]), 2 + seed % 5
            world = making.world(size, loop.steps)
            for _ in range(4):
                start = making.start(size)
                self.check_same(loop, world, start)
                end = run(loop, world, start)
                self.assertEqual(run(Program(loop[0].rows), world, end.held), end)

    def test_all_starts(self):
        program = read("if u(x) <= y\nx &= d(y)\nelse\nif y <= d(x)\nrefuse a\nelse\ny |= x\nend\nend\nstill\nx |= u(y)\nend",
                       STEPS)
        for x, y in product(range(4), repeat=2):
            self.check_same(program, WORLD, {"x": x, "y": y})


class Refused(Running):

    def check_refused(self, kind, argument, rows, start, world=WORLD):
        self.check_error(kind, argument, run, Program(rows), world, start)
        self.check_error(kind, argument, run, start=start, world=world, program=Program(rows))

    def test_no_step(self):
        for rows, name in (([Put("x", F("x"))], "f"), ([Refuse("no"), Put("x", F("x"))], "f"),
                           ([If("x", "y", [], [Put("x", Step("a", "?")(F("x")))])], "a"),
                           ([Still([Raise("x", F("x")), Raise("x", U("x"))])], "f"),
                           ([Put("x", Step("u", "-")("x"))], "u"), ([If(Step("m", "+-")("x", "y"), "y", [])], "m")):
            for start in ({"x": 0, "y": 0}, {}, {"x": 9}, {"x": None, "a": 7}):
                self.check_refused(NoStep, name, rows, start)

    def test_no_name(self):
        for rows, name in (([Put("x", "y")], "x"), ([Put("y", "a")], "a"), ([Refuse("no"), Put("y", "z")], "z"),
                           ([If("y", "y", [], [Lower("q", "y")])], "q"), ([Still([Raise("y", M("b", "a"))])], "a"),
                           ([Put("c", "y"), Put("b", "y")], "b")):
            for start in ({"y": 0}, {"y": 9}, {"y": 1, "no": 77}):
                self.check_refused(NoName, name, rows, start)

    def test_a_word_is_no_name(self):
        self.check_run("refuse no", {}, {}, "no", 0)

    def test_invalid_start(self):
        rows = [Put("x", U("x")), Refuse("no")]
        for worth in anything() + [4, -1, 10 ** 30, -10 ** 30, 1.0]:
            if worth.__class__ is not int or not 0 <= worth < 4:
                self.check_refused(InvalidStart, "x", rows, {"x": worth})
                self.check_refused(InvalidStart, "b", rows, {"x": worth, "c": worth, "b": worth, "a": 0})
                self.check_refused(InvalidStart, "y", [], {"x": 3, "y": worth})

    def test_the_errors_in_their_order(self):
        self.check_refused(NoStep, "f", [Put("x", F("a"))], {"x": 9})
        self.check_refused(NoName, "a", [Put("x", U("a"))], {"x": 9})
        self.check_refused(InvalidStart, "q", [Put("x", U("a"))], {"x": 9, "a": 0, "q": True})
        self.check_refused(NoStep, "u", [Put("x", U("a"))], {"x": 9}, World(1, []))


class Endings(Running):

    def test_listed(self):
        end = run(Program(), WORLD, {"x": 1})
        self.check_listed(end, ("__eq__",), ("refused", "at", "held"))
        self.assertEqual((Ending.__module__, run.__module__), ("knownways.running",) * 2)
        self.assertEqual(type(end.held), dict)

    def test_equal(self):
        start = {"x": 1, "y": 1}
        self.check_equal(run(Program(), WORLD, start), run(Program(), WORLD, start))
        self.check_equal(run(Program(), WORLD, start), run(Program(), World(2, []), {"y": 1, "x": 1}))
        self.check_equal(run(read("x = u(x)", STEPS), WORLD, start), run(Program(), WORLD, {"x": 2, "y": 1}))
        one, other = run(read("refuse a", []), WORLD, start), run(read("x = y\nrefuse a", []), WORLD, start)
        self.assertEqual((one.at, other.at), (0, 1))
        self.check_equal(one, other)

    def test_unlike(self):
        self.check_all_unlike([run(read(text, STEPS), WORLD, start) for text, start in (
            ("", {}), ("", {"x": 0}), ("", {"x": 1}), ("", {"y": 0}), ("", {"x": 0, "y": 0}), ("refuse a", {}),
            ("refuse b", {}), ("refuse a", {"x": 0}), ("refuse a", {"x": 1}), ("x = u(x)", {"x": 1}))])

    def test_nothing_else_is_equal(self):
        for value in anything():
            if not isinstance(value, Ending):
                self.check_unlike(run(Program(), WORLD, {}), value)
        self.check_unlike(run(Program(), WORLD, {"x": 1}), {"x": 1})
        self.check_unlike(run(Program(), WORLD, {"x": 1}), (None, None, {"x": 1}))

    def test_the_start_may_change_afterwards(self):
        start = {"x": 1}
        end = run(Program([Put("x", U("x"))]), WORLD, start)
        start["x"] = 0
        start["y"] = 3
        self.assertEqual((end.refused, end.at, end.held), (None, None, {"x": 2}))

    def test_each_run_has_an_end_of_its_own(self):
        start = {"x": 1}
        one, other = run(Program(), WORLD, start), run(Program(), WORLD, start)
        one.held["x"] = 3
        self.assertEqual((other.held, start), ({"x": 1}, {"x": 1}))


if __name__ == "__main__":
    unittest.main()
