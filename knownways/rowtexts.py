"""The lines of rows."""

SETTING_SIGNS = {"put": "=", "raise": "|=", "lower": "&="}


def lines_of(rows):
    """The lines of rows, one row after the other."""
    found = []
    for row in rows:
        found.extend(row_lines(row))
    return found


def row_lines(row):
    """The lines of a row and of the rows within it."""
    if row.kind in SETTING_SIGNS:
        return [f"{row.name} {SETTING_SIGNS[row.kind]} {row.expr}"]
    if row.kind == "refuse":
        return [f"refuse {row.word}"]
    if row.kind == "still":
        return ["still", *lines_of(row.rows), "end"]
    return _if_lines(row)


def _if_lines(row):
    others = ["else", *lines_of(row.others)] if row.others else []
    return [f"if {row.left} <= {row.right}", *lines_of(row.rows), *others, "end"]
