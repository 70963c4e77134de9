"""Points [11], [12] and [14]: rows and their texts."""

import unittest
from itertools import product

from knownways.errors import InvalidRow
from knownways.exprs import Expr, named
from knownways.rows import If, Lower, Put, Raise, Refuse, Row, Still
from knownways.steps import Step
from tests.helpers import F, G, H, Case, anything, no_names, no_parts, no_rows, some_rows

SETTING = (Put, Raise, Lower)
X, Y = named("x"), named("y")
U, M = Step("u", "+"), Step("m", "++")
LOOP = [Raise("x", F("y"))]


class Setting(Case):

    def test_name_and_expression_are_kept(self):
        for kind, sign in ((Put, "="), (Raise, "|="), (Lower, "&=")):
            row = kind("x", H("y", F("z")))
            self.assertEqual((row.name, row.expr), ("x", H("y", F("z"))))
            self.assertEqual((row.names, row.steps), (("x", "y", "z"), (F, H)))
            self.assertEqual(str(row), "x " + sign + " h(y, f(z))")
            self.assertEqual(str(kind("abcd", X & "y")), "abcd " + sign + " lesser(x, y)")

    def test_a_name_stands_for_its_expression(self):
        for kind in SETTING:
            row = kind("x", "y")
            self.assertIsInstance(row.expr, Expr)
            self.assertEqual((row.expr, row.names, row.steps), (Y, ("x", "y"), ()))
            self.check_equal(row, kind("x", Y))

    def test_names_and_steps_ascending_each_once(self):
        for kind in SETTING:
            row = kind("z", H(G("z"), F(G("a"))))
            self.assertEqual((row.names, row.steps), (("a", "z"), (F, G, H)))
            row = kind("y", F(Step("f", "-")(Step("f", "?")("y"))))
            self.assertEqual((row.names, [str(step) for step in row.steps]), (("y",), ["f +", "f -", "f ?"]))

    def test_no_names(self):
        for kind in SETTING:
            for value in no_names():
                self.check_error(InvalidRow, "name", kind, value, "x")
                self.check_error(InvalidRow, "name", kind, value, 3)

    def test_no_expressions(self):
        for kind in SETTING:
            for value in no_parts():
                self.check_error(InvalidRow, "expr", kind, "x", value)
                self.check_error(InvalidRow, "expr", kind, expr=value, name="x")

    def test_arguments_by_name(self):
        for kind in SETTING:
            self.check_equal(kind(expr=F("x"), name="y"), kind("y", F("x")))
            self.check_equal(kind("y", expr="x"), kind("y", "x"))


class Refusing(Case):

    def test_the_word_is_kept(self):
        for word in ("w", "no", "abcd"):
            row = Refuse(word)
            self.assertEqual((row.word, row.names, row.steps, str(row)), (word, (), (), "refuse " + word))
        self.check_equal(Refuse(word="no"), Refuse("no"))

    def test_no_words(self):
        for value in no_names():
            self.check_error(InvalidRow, "word", Refuse, value)
            self.check_error(InvalidRow, "word", Refuse, word=value)


class Choosing(Case):

    def test_sides_and_rows_are_kept(self):
        rows, others = [Put("a", F("b")), Refuse("no")], [Lower("c", "d")]
        row = If(G("y"), "x", rows, others)
        self.assertIsInstance(row.right, Expr)
        self.assertEqual((row.left, row.right, row.rows, row.others), (G("y"), X, tuple(rows), tuple(others)))
        self.assertEqual((row.names, row.steps), (("a", "b", "c", "d", "x", "y"), (F, G)))
        self.assertEqual(str(row), "if g(y) <= x\na = f(b)\nrefuse no\nelse\nc &= d\nend")

    def test_no_others(self):
        for row in (If("x", "y", [Refuse("no")]), If("x", "y", (Refuse("no"),), ()), If("x", "y", [Refuse("no")], [])):
            self.assertEqual((row.others, str(row)), ((), "if x <= y\nrefuse no\nend"))

    def test_no_rows(self):
        self.assertEqual(str(If("x", "y", [])), "if x <= y\nend")
        self.assertEqual(str(If("x", "y", (), [Refuse("no")])), "if x <= y\nelse\nrefuse no\nend")
        self.assertEqual((If("x", "y", []).rows, If("x", "y", []).others), ((), ()))

    def test_blocks_in_blocks(self):
        row = If("x", "y", [If("y", F("z"), [Still(LOOP)], [Refuse("no")])],
                 [If("z", "z", [], [Put("x", "y")])])
        self.assertEqual(str(row), "if x <= y\nif y <= f(z)\nstill\nx |= f(y)\nend\nelse\nrefuse no\nend\nelse\n"
                                   "if z <= z\nelse\nx = y\nend\nend")
        self.assertEqual((row.names, row.steps), (("x", "y", "z"), (F,)))

    def test_names_of_the_rows_and_the_others(self):
        row = If("x", "x", [Put("c", "x")], [Put("b", G("a"))])
        self.assertEqual((row.names, row.steps), (("a", "b", "c", "x"), (G,)))
        self.assertEqual(If("x", "x", [Refuse("no")], [Refuse("yes")]).names, ("x",))

    def test_unlike_steps_of_one_name(self):
        row = If(F("x"), Step("f", "-")("x"), [Put("x", Step("f", "?")("x"))])
        self.assertEqual([str(step) for step in row.steps], ["f +", "f -", "f ?"])

    def test_no_expressions(self):
        for value in no_parts():
            self.check_error(InvalidRow, "expr", If, value, "x", [])
            self.check_error(InvalidRow, "expr", If, "x", value, [])
            self.check_error(InvalidRow, "expr", If, value, "x", None, None)
            self.check_error(InvalidRow, "expr", If, "x", value, 3, 3)

    def test_no_sequences_of_rows(self):
        for value in no_rows() + some_rows():
            if isinstance(value, (list, tuple)):
                continue
            self.check_error(InvalidRow, "row", If, "x", "y", value)
            self.check_error(InvalidRow, "row", If, "x", "y", [], value)
            self.check_error(InvalidRow, "row", Still, value)

    def test_something_in_it_is_no_row(self):
        for value in no_rows():
            for rows in ([value], (value,), LOOP + [value], [value] + LOOP, (*some_rows(), value)):
                self.check_error(InvalidRow, "row", If, "x", "y", rows)
                self.check_error(InvalidRow, "row", If, "x", "y", LOOP, rows)
                self.check_error(InvalidRow, "row", Still, rows)

    def test_arguments_by_name(self):
        self.check_equal(If(others=LOOP, rows=[], right="y", left="x"), If("x", "y", [], LOOP))
        self.check_equal(If("x", "y", rows=LOOP), If("x", "y", LOOP))
        self.check_error(InvalidRow, "row", If, others=None, rows=[], right="y", left="x")

    def test_lists_may_change_afterwards(self):
        rows, others = [Put("x", "y")], [Put("y", "x")]
        row = If("x", "y", rows, others)
        rows.append(Refuse("no"))
        others.clear()
        self.check_equal(row, If("x", "y", [Put("x", "y")], [Put("y", "x")]))
        self.assertEqual((row.rows, row.others), ((Put("x", "y"),), (Put("y", "x"),)))


class Looping(Case):

    def test_rows_are_kept(self):
        rows = [Raise("x", F("y")), Raise("z", M("x", "x")), Raise("x", Step("k", "+++")("a", "b", "c"))]
        for count in (1, 2, 3):
            row = Still(rows[:count])
            self.assertEqual((type(row.rows), row.rows), (tuple, tuple(rows[:count])))
        self.assertEqual((row.names, row.steps), (("a", "b", "c", "x", "y", "z"), (F, Step("k", "+++"), M)))
        self.assertEqual(str(row), "still\nx |= f(y)\nz |= m(x, x)\nx |= k(a, b, c)\nend")
        self.check_equal(Still(tuple(rows)), row)
        self.check_equal(Still(rows=rows), row)

    def test_one_to_three_rows(self):
        self.check_error(InvalidRow, "loop", Still, [])
        self.check_error(InvalidRow, "loop", Still, ())
        for count in (4, 5, 9):
            self.check_error(InvalidRow, "loop", Still, LOOP * count)
            self.check_error(InvalidRow, "loop", Still, tuple(LOOP * count))
        self.assertEqual(len(Still(LOOP * 3).rows), 3)

    def test_only_raise_rows(self):
        for row in (Put("x", F("y")), Lower("x", F("y")), Refuse("no"), If("x", "y", LOOP), Still(LOOP)):
            for rows in ([row], LOOP + [row], [row] + LOOP):
                self.check_error(InvalidRow, "loop", Still, rows)

    def test_only_steps_that_rise_in_all_arguments(self):
        for count in (1, 2, 3):
            for ways in product("+-?", repeat=count):
                row = Raise("x", Step("f", "".join(ways))(*["y"] * count))
                if "".join(ways) == "+" * count:
                    self.assertEqual(Still([row]).rows, (row,))
                else:
                    self.check_error(InvalidRow, "loop", Still, [row])
                    self.check_error(InvalidRow, "loop", Still, LOOP + [row])

    def test_only_steps_applied_to_names(self):
        for expr in (X, X & Y, X | F("y"), F(X & Y), F(F("x")), M("x", F("y")), M(X | Y, "x"), M(G("x"), G("y"))):
            self.check_error(InvalidRow, "loop", Still, [Raise("x", expr)])
            self.check_error(InvalidRow, "loop", Still, LOOP + [Raise("x", expr)])

    def test_no_row_is_told_first(self):
        self.check_error(InvalidRow, "row", Still, [Put("x", "y"), None])
        self.check_error(InvalidRow, "row", Still, LOOP * 4 + ["x"])

    def test_lists_may_change_afterwards(self):
        rows = list(LOOP)
        row = Still(rows)
        rows[0] = Refuse("no")
        self.check_equal(row, Still(LOOP))


class Every(Case):

    def every_row(self):
        put, other = Put("x", F("y")), Refuse("no")
        return [Put("x", "y"), Put("y", "y"), Put("y", "x"), put, Put("x", Step("f", "-")("y")), Put("x", X & Y),
                Raise("x", "y"), Raise("y", "y"), Raise("x", F("y")), Lower("x", "y"), Lower("y", "y"),
                Lower("x", F("y")), other, Refuse("x"), If("x", "y", []), If("y", "y", []), If("x", "x", []),
                If("y", "x", []), If("x", "y", [put]), If("x", "y", [], [put]), If("x", "y", [put], [other]),
                If("x", "y", [put, other]), If("x", F("y"), [put]), Still(LOOP), Still(LOOP * 2),
                Still([Raise("x", F("x"))]), If("x", "y", LOOP), If("x", "y", [Still(LOOP)]),
                If("x", "y", [If("x", "y", [put])]), If("x", "y", [If("x", "y", [], [put])])]

    def test_all_are_rows_of_their_own_class(self):
        kinds = (Put, Raise, Lower, Refuse, If, Still)
        for row, own in zip(some_rows(), kinds):
            self.assertIsInstance(row, Row)
            self.assertEqual([kind for kind in kinds if isinstance(row, kind)], [own])
        self.assertEqual({kind.__module__ for kind in kinds + (Row,)}, {"knownways.rows"})

    def test_listed(self):
        for method in ("__eq__", "__str__"):
            self.assertIn(method, vars(Row))
        for row in some_rows():
            self.check_listed(row, ("__init__",), ("names", "steps"))
            self.assertEqual((type(row.names), type(row.steps)), (tuple, tuple))
        for kind in SETTING:
            self.check_listed(kind("x", "y"), (), ("name", "expr"))
        self.check_listed(Refuse("no"), (), ("word",))
        self.check_listed(If("x", "y", []), (), ("left", "right", "rows", "others"))
        self.check_listed(Still(LOOP), (), ("rows",))

    def test_equal(self):
        for row, other in zip(self.every_row(), self.every_row()):
            self.check_equal(row, other)
        self.check_equal(If("x", "y", LOOP, [Refuse("no")]), If(X, Y, tuple(LOOP), (Refuse("no"),)))

    def test_unlike(self):
        self.check_all_unlike(self.every_row())

    def test_nothing_else_is_equal(self):
        for value in anything():
            if not isinstance(value, Row):
                for row in some_rows():
                    self.check_unlike(row, value)
        self.check_unlike(Refuse("no"), "refuse no")


if __name__ == "__main__":
    unittest.main()
