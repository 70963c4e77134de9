"""The runs of a claim as one row of plain orders, which a place of a tree goes along.

An order is a pair of a word and what it needs:
("get", cell) puts what a cell holds on the pile; ("set", cell) takes it off.
("apply", step), ("lesser", None), ("greater", None) put one thing in the place of several.
("suppose", sign), ("ask", sign) take both sides of a comparison off the pile.
("choose", at) takes both sides off, and goes on with order `at` if the left one is above.
("enter", (number, side)) tells that the run enters a side of an If.
("jump", at), ("refuse", (run, word, at)) go on with order `at`.
("loop", (run, number, rows, sets)) runs a loop with cells in the place of names.
"""


class Code:
    """The orders of a claim."""

    def __init__(self, claim):
        self.claim = claim
        self.orders = []
        for said in claim.supposed:
            self._add_comparison(said, "suppose", 0)
        self._add_run(0, claim.programs[0], claim.asked)
        if claim.turns or len(claim.programs) == 2:
            self._add_run(1, claim.programs[-1], ())

    def cell(self, run, name):
        """The cell of a name in a run."""
        return run * len(self.claim.names) + self.claim.names.index(name)

    def _add(self, word, needed):
        self.orders.append((word, needed))

    def _add_run(self, run, program, asked):
        began = len(self.orders)
        self._add_rows(program.rows, 0, run)
        for said in asked:
            self._add_comparison(said, "ask", run)
        for at in range(began, len(self.orders)):
            word, needed = self.orders[at]
            if word == "refuse":
                self.orders[at] = (word, (run, needed, len(self.orders)))

    def _add_comparison(self, said, word, run):
        self._add_expr(said.left, run)
        self._add_expr(said.right, run)
        self._add(word, said.sign)

    def _add_expr(self, expr, run):
        for part in expr.parts:
            self._add_expr(part, run)
        if expr.kind == "name":
            self._add("get", self.cell(run, expr.word))
        elif expr.kind == "step":
            self._add("apply", expr.step)
        else:
            self._add(expr.kind, None)

    def _add_rows(self, rows, at, run):
        for row in rows:
            self._add_row(row, at, run)
            at += row.size

    def _add_row(self, row, at, run):
        if row.kind == "refuse":
            self._add("refuse", row.word)
        elif row.kind == "if":
            self._add_choice(row, at, run)
        elif row.kind == "still":
            self._add("loop", self._loop(row, at, run))
        else:
            self._add_setting(row, run)

    def _add_setting(self, row, run):
        if row.kind != "put":
            self._add("get", self.cell(run, row.name))
        self._add_expr(row.expr, run)
        if row.kind != "put":
            self._add("greater" if row.kind == "raise" else "lesser", None)
        self._add("set", self.cell(run, row.name))

    def _add_choice(self, row, at, run):
        self._add_expr(row.left, run)
        self._add_expr(row.right, run)
        chosen = len(self.orders)
        self._add("choose", None)
        self._add("enter", (at, True))
        self._add_rows(row.rows, at + 1, run)
        jumped = len(self.orders)
        self._add("jump", None)
        self.orders[chosen] = ("choose", len(self.orders))
        self._add("enter", (at, False))
        self._add_rows(row.others, at + 1 + sum([inner.size for inner in row.rows]), run)
        self.orders[jumped] = ("jump", len(self.orders))

    def _loop(self, row, at, run):
        names = sorted({inner.name for inner in row.rows})
        sets = [(self.cell(run, name), name) for name in names]
        rows = []
        for inner in row.rows:
            words = [part.word for part in inner.expr.parts]
            places = [(names.index(word) if word in names else None, self.cell(run, word)) for word in words]
            rows.append((inner.expr.step, names.index(inner.name), tuple(places)))
        return run, at, tuple(rows), tuple(sets)
