"""Point [15]: drafts of programs."""

import unittest

from knownways.errors import InvalidExpr, InvalidRow
from knownways.exprs import named
from knownways.programs import Draft, Program
from knownways.rows import If, Put, Raise, Refuse, Still
from knownways.steps import Step
from tests.helpers import F, G, Case, no_names, no_parts, no_rows, some_rows

UNLIKE = Step("f", "-")


def put(draft, name, expr):
    draft[name] = expr


class Collected(Case):

    def check_rows(self, draft, rows):
        self.check_equal(draft.program(), Program(rows))
        self.assertEqual(len(draft), len(Program(rows)))

    def test_an_empty_draft(self):
        self.check_rows(Draft(), [])

    def test_an_item_is_a_name(self):
        draft = Draft()
        for name in ("x", "abcd", "f"):
            self.check_equal(draft[name], named(name))
        self.check_rows(draft, [])

    def test_setting_an_item_adds_put(self):
        draft = Draft()
        draft["x"] = F(draft["y"])
        self.check_rows(draft, [Put("x", F("y"))])
        draft["abcd"] = "y"
        self.check_rows(draft, [Put("x", F("y")), Put("abcd", "y")])
        draft["x"] = draft["x"]
        self.check_rows(draft, [Put("x", F("y")), Put("abcd", "y"), Put("x", "x")])

    def test_setting_in_place_adds_put(self):
        draft = Draft()
        draft["x"] |= F(draft["y"])
        draft["x"] &= "z"
        self.check_rows(draft, [Put("x", named("x") | F("y")), Put("x", named("x") & "z")])
        self.assertEqual(str(draft.program()), "x = greater(x, f(y))\nx = lesser(x, z)")

    def test_add(self):
        draft, rows = Draft(), []
        for row in some_rows() + some_rows():
            self.assertIsNone(draft.add(row))
            rows.append(row)
            self.check_rows(draft, rows)
        draft.add(row=Refuse("last"))
        self.check_rows(draft, rows + [Refuse("last")])

    def test_len_is_that_of_the_program(self):
        draft = Draft()
        draft.add(If("x", "y", [Still([Raise("x", F("y")), Raise("y", F("x"))])], [Refuse("no"), Put("x", "y")]))
        self.assertEqual(len(draft), 6)
        draft["x"] = "y"
        self.assertEqual((len(draft), len(draft.program().rows)), (7, 2))

    def test_a_program_stays_when_rows_are_added(self):
        draft = Draft()
        before = draft.program()
        draft["x"] = "y"
        between = draft.program()
        draft.add(Refuse("no"))
        self.assertEqual((str(before), str(between), str(draft.program())), ("", "x = y", "x = y\nrefuse no"))
        self.check_equal(draft.program(), draft.program())

    def test_drafts_are_apart(self):
        one, other = Draft(), Draft()
        one["x"] = "y"
        self.check_rows(one, [Put("x", "y")])
        self.check_rows(other, [])

    def test_listed(self):
        self.check_listed(Draft(), ("__init__", "__getitem__", "__setitem__", "add", "program", "__len__"), ())
        self.assertEqual(Draft.__module__, "knownways.programs")


class Refused(Case):

    def setUp(self):
        self.draft = Draft()
        self.draft["x"] = F("y")

    def check_refused(self, kind, word, call, *values, **by_name):
        """The error is raised, and the draft is what it was."""
        self.check_error(kind, word, call, *values, **by_name)
        self.check_equal(self.draft.program(), Program([Put("x", F("y"))]))
        self.assertEqual(len(self.draft), 1)

    def test_items_are_names(self):
        for value in no_names():
            self.check_refused(InvalidExpr, "name", lambda draft, at: draft[at], self.draft, value)

    def test_set_items_are_names(self):
        for value in no_names():
            self.check_refused(InvalidRow, "name", put, self.draft, value, "x")
            self.check_refused(InvalidRow, "name", put, self.draft, value, 3)
            self.check_refused(InvalidRow, "name", put, self.draft, value, UNLIKE("x"))

    def test_expressions_are_set(self):
        for value in no_parts():
            self.check_refused(InvalidRow, "expr", put, self.draft, "x", value)

    def test_rows_are_added(self):
        for value in no_rows() + [[Put("x", "y")], Program([Put("x", "y")])]:
            self.check_refused(InvalidRow, "row", self.draft.add, value)
            self.check_refused(InvalidRow, "row", self.draft.add, row=value)

    def test_steps_of_one_name_are_alike(self):
        self.check_refused(InvalidRow, "step", put, self.draft, "x", UNLIKE("y"))
        self.check_refused(InvalidRow, "step", put, self.draft, "x", G(UNLIKE(G("y"))))
        self.check_refused(InvalidRow, "step", self.draft.add, Put("z", UNLIKE("y")))
        self.check_refused(InvalidRow, "step", self.draft.add, If("x", "y", [], [Put("z", UNLIKE("y"))]))
        self.check_error(InvalidRow, "step", Draft().add, Put("z", UNLIKE(F("y"))))

    def test_it_goes_on_after_an_error(self):
        self.check_refused(InvalidRow, "step", self.draft.add, Put("z", UNLIKE("y")))
        self.draft["z"] = G("y")
        self.check_equal(self.draft.program(), Program([Put("x", F("y")), Put("z", G("y"))]))


if __name__ == "__main__":
    unittest.main()
