"""Points [13] and [14]: programs and their texts."""

import unittest

from knownways.errors import InvalidRow, NoRow
from knownways.programs import Program
from knownways.rows import If, Lower, Put, Raise, Refuse, Still
from knownways.steps import Step
from tests.helpers import F, G, H, Case, anything, no_rows, some_rows

M = Step("m", "++")
PUT, OTHER, REFUSE = Put("x", F("y")), Put("y", G(F("x"))), Refuse("no")
LOOP = Still([Raise("x", F("y")), Raise("z", M("x", "y")), Raise("x", M("z", "z"))])
CHOICE = If("x", F("y"), [PUT, If("y", "z", [REFUSE], [OTHER, LOOP])], [Refuse("a")])


class Made(Case):

    def test_rows_are_kept(self):
        for rows in ([], [PUT], [PUT, REFUSE, LOOP, CHOICE, PUT], some_rows()):
            for program in (Program(rows), Program(tuple(rows)), Program(rows=rows)):
                self.assertEqual((type(program.rows), program.rows), (tuple, tuple(rows)))

    def test_the_empty_program(self):
        program = Program()
        self.assertEqual((program.rows, program.names, program.steps, program.words), ((), (), (), ()))
        self.assertEqual((program.weight, len(program), str(program)), (0, 0, ""))
        self.check_equal(program, Program([]))
        self.check_equal(program, Program(()))

    def test_no_sequences_of_rows(self):
        for value in no_rows() + some_rows() + [Program([PUT])]:
            if not isinstance(value, (list, tuple)):
                self.check_error(InvalidRow, "row", Program, value)
                self.check_error(InvalidRow, "row", Program, rows=value)

    def test_something_in_it_is_no_row(self):
        for value in no_rows() + [[PUT], Program([PUT])]:
            for rows in ([value], (value,), [PUT, value], (value, PUT), [*some_rows(), value]):
                self.check_error(InvalidRow, "row", Program, rows)

    def test_two_unlike_steps_of_one_name(self):
        unlike = Put("z", Step("f", "-")("z"))
        for rows in ([PUT, unlike], [unlike, PUT], [Put("x", F(Step("f", "?")("x")))], [If(F("x"), "y", [unlike])],
                     [If("x", "y", [PUT], [unlike])], [If("x", "y", []), unlike, LOOP], [CHOICE, unlike],
                     [If(F("x"), Step("f", "++")("x", "y"), [])], [If("x", "y", [If("x", "y", [unlike], [LOOP])])]):
            self.check_error(InvalidRow, "step", Program, rows)
            self.check_error(InvalidRow, "step", Program, tuple(rows))
            self.check_error(InvalidRow, "row", Program, rows + [None])

    def test_lists_may_change_afterwards(self):
        rows = [PUT]
        program = Program(rows)
        rows.append(REFUSE)
        self.check_equal(program, Program([PUT]))
        self.assertEqual((len(program), program.words, str(program)), (1, (), "x = f(y)"))

    def test_listed(self):
        self.check_listed(Program(), ("__init__", "__getitem__", "__add__", "__mul__", "__rmul__", "__len__", "__eq__",
                                      "__str__"), ("rows", "names", "steps", "words", "weight"))
        self.assertEqual(Program.__module__, "knownways.programs")


class Looked(Case):

    def test_names_and_steps_each_once_ascending(self):
        program = Program([OTHER, PUT, Put("c", H("b", "aa")), LOOP])
        self.assertEqual((program.names, program.steps), (("aa", "b", "c", "x", "y", "z"), (F, G, H, M)))
        self.assertEqual((Program([CHOICE]).names, Program([CHOICE]).steps), (("x", "y", "z"), (F, G, M)))
        self.assertEqual([type(program.names), type(program.steps), type(program.words)], [tuple] * 3)

    def test_words_each_once_ascending(self):
        rows = [REFUSE, If("x", "y", [Refuse("b")], [If("x", "y", [Refuse("ab")], [REFUSE, Refuse("a")])])]
        self.assertEqual(Program(rows).words, ("a", "ab", "b", "no"))
        self.assertEqual((Program(rows).names, Program([PUT]).words), (("x", "y"), ()))

    def test_numbers_in_the_order_of_the_lines(self):
        program = Program([OTHER, CHOICE, LOOP])
        expected = [OTHER, CHOICE, PUT, CHOICE.rows[1], REFUSE, OTHER, LOOP, *LOOP.rows, Refuse("a"), LOOP, *LOOP.rows]
        self.assertEqual(len(program), len(expected))
        for at, row in enumerate(expected):
            self.check_equal(program[at], row)
            self.assertEqual(str(program[at]).split("\n")[0],
                             [line for line in str(program).split("\n") if line not in ("else", "end")][at])

    def test_no_row_of_this_number(self):
        for program, many in ((Program(), 0), (Program([PUT]), 1), (Program([CHOICE]), 10), (Program([LOOP]), 4)):
            for at in (-1, -2, -many, many, many + 1, 10 ** 30, -10 ** 30):
                if not 0 <= at < many:
                    self.check_error(NoRow, at, lambda told, index: told[index], program, at)
            for at in range(many):
                self.assertIsNotNone(program[at])

    def test_the_error_keeps_the_number_itself(self):
        at = 10 ** 30
        with self.assertRaises(NoRow) as caught:
            Program([PUT])[at]
        self.assertTrue(caught.exception.at is at)

    def test_str(self):
        self.assertEqual(str(Program([OTHER, CHOICE, LOOP])),
                         "y = g(f(x))\nif x <= f(y)\nx = f(y)\nif y <= z\nrefuse no\nelse\ny = g(f(x))\nstill\n"
                         "x |= f(y)\nz |= m(x, y)\nx |= m(z, z)\nend\nend\nelse\nrefuse a\nend\nstill\nx |= f(y)\n"
                         "z |= m(x, y)\nx |= m(z, z)\nend")
        self.assertEqual(str(Program(some_rows())),
                         "x = y\nx |= f(y)\nx &= y\nrefuse no\nif x <= y\nend\nstill\nx |= f(y)\nend")
        for row in (PUT, REFUSE, LOOP, CHOICE):
            self.assertEqual(str(Program([row])), str(row))


class Weights(Case):

    def check_weight(self, rows, weight):
        self.assertEqual(Program(rows).weight, weight, str(Program(rows)))
        self.assertEqual(Program([PUT, *rows, PUT]).weight, weight + 2)

    def test_rows_that_set_a_name(self):
        for kind in (Put, Raise, Lower):
            self.check_weight([kind("x", "y")], 0)
            self.check_weight([kind("x", F("y"))], 1)
            self.check_weight([kind("x", F(F(F("y"))))], 3)
            self.check_weight([kind("x", H(F("y"), G(F("x"))))], 4)
            self.check_weight([kind("x", F("y") & (F("y") | "x"))], 2)

    def test_refuse_has_none(self):
        self.check_weight([REFUSE], 0)
        self.check_weight([REFUSE, REFUSE, PUT], 1)

    def test_if(self):
        self.check_weight([If("x", "y", [])], 0)
        self.check_weight([If(F("x"), H(F("x"), "y"), [])], 3)
        self.check_weight([If("x", "y", [PUT, OTHER], [PUT])], 3)
        self.check_weight([If("x", "y", [PUT], [PUT, OTHER])], 3)
        self.check_weight([If(F("x"), "y", [PUT], [REFUSE])], 2)
        self.check_weight([If(F("x"), "y", [REFUSE], [LOOP])], 6)
        self.check_weight([If("x", F("x"), [If(F("x"), "y", [PUT], [PUT, PUT])], [If("x", "y", [PUT])])], 4)

    def test_still(self):
        self.check_weight([Still([Raise("x", F("y"))])], 2)
        self.check_weight([Still([Raise("x", F("y")), Raise("x", F("x"))])], 3)
        self.check_weight([Still([Raise("x", F("y")), Raise("y", F("x"))])], 4)
        self.check_weight([LOOP], 5)
        self.check_weight([Still([Raise("x", F("y"))] * 3)], 4)
        self.check_weight([Still([Raise("x", F("y")), Raise("y", F("y")), Raise("z", M("x", "y"))])], 6)

    def test_a_sum_over_the_rows(self):
        self.check_weight([PUT, OTHER, CHOICE, LOOP, REFUSE], 1 + 2 + (1 + 1 + 2 + 5) + 5)
        self.check_weight([PUT, PUT, PUT], 3)


class Operators(Case):

    def test_plus(self):
        one, other = Program([PUT, LOOP]), Program([CHOICE])
        self.check_equal(one + other, Program([PUT, LOOP, CHOICE]))
        self.check_equal(other + one, Program([CHOICE, PUT, LOOP]))
        self.check_equal(one + Program(), one)
        self.check_equal(Program() + one, one)
        self.check_equal(one + one, Program([PUT, LOOP, PUT, LOOP]))
        self.assertEqual(((one + other).weight, len(one + other)), (one.weight + other.weight, 15))

    def test_plus_with_two_unlike_steps_of_one_name(self):
        one, other = Program([PUT]), Program([Put("x", Step("f", "-")("x"))])
        self.check_error(InvalidRow, "step", lambda a, b: a + b, one, other)
        self.check_error(InvalidRow, "step", lambda a, b: a + b, other, one)

    def test_times_on_either_side(self):
        program = Program([PUT, CHOICE])
        for count in range(5):
            self.check_equal(program * count, Program([PUT, CHOICE] * count))
            self.check_equal(count * program, Program([PUT, CHOICE] * count))
            self.check_equal(count * Program(), Program())
            self.assertEqual((program * count).weight, program.weight * count)

    def test_operands_stay(self):
        one, other = Program([PUT]), Program([OTHER])
        kept = one
        for _ in range(2):
            self.assertEqual(str(one + other), "x = f(y)\ny = g(f(x))")
            self.assertEqual(str(one * 2), "x = f(y)\nx = f(y)")
        self.assertEqual((str(one), str(other)), ("x = f(y)", "y = g(f(x))"))
        one += other
        one *= 2
        self.assertEqual((len(one), str(kept)), (4, "x = f(y)"))


class Equal(Case):

    def test_equal_programs(self):
        self.check_equal(Program([PUT, CHOICE]), Program((Put("x", F("y")), CHOICE)))
        self.check_equal(Program([If("x", "y", [])]), Program([If("x", "y", (), [])]))

    def test_unlike_programs(self):
        self.check_all_unlike([Program(), Program([PUT]), Program([OTHER]), Program([PUT, PUT]), Program([PUT, OTHER]),
                               Program([OTHER, PUT]), Program([CHOICE]), Program([LOOP]), Program(LOOP.rows),
                               Program([Put("x", Step("f", "-")("y"))]), Program([Raise("x", F("y"))])])

    def test_nothing_else_is_equal(self):
        for value in anything():
            if not isinstance(value, Program):
                self.check_unlike(Program(), value)
                self.check_unlike(Program([PUT]), value)
        self.check_unlike(Program([PUT]), (PUT,))
        self.check_unlike(Program([PUT]), PUT)
        self.check_unlike(Program(), "")


if __name__ == "__main__":
    unittest.main()
