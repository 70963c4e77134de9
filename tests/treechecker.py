"""A second, plain way to tell whether a tree is right, written after points [29] to [31] for the tests.

Terms are tuples: ("name", "x"), ("name", "x'"), ("end", 0, 3, "x"), ("f", term, ..) where a step's name stands ahead.
Facts are sets of pairs. All is worked out anew at each place, until nothing more comes in.
"""

from itertools import product

from knownways.traits import Traits


class Stuck(Exception):
    """The known facts do not decide how a run goes on."""


def told_and_following(traits):
    """All traits as pairs of a word and names, with those that follow."""
    found = {(trait.word, *[step.name for step in trait.steps]) for trait in traits.entries}
    while True:
        more = set(found)
        for one in found:
            if one[0] == "below":
                more |= {("below", one[1], other[2]) for other in found if other[0] == "below" and other[1] == one[2]}
                more |= {("down", one[1])} if ("down", one[2]) in found else set()
                more |= {("up", one[2])} if ("up", one[1]) in found else set()
        if more == found:
            return found
        found = more


def is_plain(term):
    return term[0] in ("name", "end")


def within(term):
    """All terms in a term."""
    found = {term}
    if not is_plain(term):
        for part in term[1:]:
            found |= within(part)
    return found


def depth(term):
    return 0 if is_plain(term) else 1 + max(depth(part) for part in term[1:])


def text(term):
    if term[0] == "name":
        return term[1]
    if term[0] == "end":
        return f"end({term[1]}, {term[2]}, {term[3]})"
    return f"{term[0]}({', '.join(text(part) for part in term[1:])})"


class At:
    """A place of a tree: what is told there, and what follows of it."""

    def __init__(self, claim, traits, told, terms):
        self.claim = claim
        self.traits = told_and_following(traits)
        self.ways = {step.name: step.ways for step in (*claim.steps, *traits.steps)}
        self.turned = claim.__class__.__name__ in ("Rises", "Falls")
        self.present = set()
        self.less = set()
        self.less_or_equal = set()
        self.loops = {}
        for name in claim.names:
            self.present.add(("name", name))
        if self.turned:
            self.present.add(("name", claim.into + "'"))
            self.less_or_equal.add((("name", claim.into), ("name", claim.into + "'")))
        for term in terms:
            self.present |= within(term)
        for low, sign, high in told:
            self.tell(low, sign, high)
        self.settle()

    def tell(self, low, sign, high):
        self.less_or_equal.add((low, high))
        if sign == "<":
            self.less.add((low, high))

    def sizes(self):
        return len(self.present), len(self.less), len(self.less_or_equal), len(self.loops)

    def settle(self):
        """Goes on with the runs and the rules until nothing is new."""
        before = None
        while self.sizes() != before:
            before = self.sizes()
            self.follow()
            self.seen = self.go_on()
        self.impossible = any(low == high for low, high in self.less)

    def knows(self, low, high):
        return low == high or (low, high) in self.less_or_equal

    def follow(self):
        before = None
        while self.sizes() != before:
            before = self.sizes()
            self.chain()
            for low, high in self.concluded():
                self.less_or_equal.add((low, high))

    def chain(self):
        """Rule 1."""
        self.less_or_equal |= {(term, term) for term in self.present} | self.less
        terms = sorted(self.present, key=repr)
        for by in terms:
            lower = [term for term in terms if (term, by) in self.less_or_equal]
            upper = [term for term in terms if (by, term) in self.less_or_equal]
            for low, high in product(lower, upper):
                self.less_or_equal.add((low, high))
                if (low, by) in self.less or (by, high) in self.less:
                    self.less.add((low, high))

    def concluded(self):
        """Rules 2 to 9."""
        applied = [term for term in self.present if not is_plain(term)]
        found = []
        for term in applied:
            found += self.of_one(term)
            for other in applied:
                found += self.of_two(term, other)
        for loop in self.loops.values():
            found += self.of_loop(*loop, applied)
        return found

    def goes(self, ways, parts, others):
        needed = {"+": lambda one, other: self.knows(one, other), "-": lambda one, other: self.knows(other, one),
                  "?": lambda one, other: self.knows(one, other) and self.knows(other, one)}
        return all(needed[way](one, other) for way, one, other in zip(ways, parts, others))

    def of_one(self, term):
        step, *parts = term
        found = []
        if ("up", step) in self.traits:
            found.append((parts[0], term))
        if ("down", step) in self.traits:
            found.append((term, parts[0]))
        if ("mean", step) in self.traits:
            for low, high in (parts, parts[::-1]):
                if self.knows(low, high):
                    found += [(low, term), (term, high)]
        return found

    def of_two(self, term, other):
        (step, *parts), (beside, *others) = term, other
        found = []
        if step == beside and self.goes(self.ways[step], parts, others):
            found.append((term, other))
        if step == beside and ("alike", step) in self.traits and self.goes(self.ways[step], parts[::-1], others):
            found.append((term, other))
        if ("below", step, beside) in self.traits and self.goes(self.ways[step], parts, others):
            found.append((term, other))
        if step == beside and ("settled", step) in self.traits:
            if self.knows(parts[0], other) or self.knows(term, others[0]):
                found.append((term, other))
        if ("back", step, beside) in self.traits:
            if self.knows(term, others[0]):
                found.append((parts[0], other))
            if self.knows(parts[0], other):
                found.append((term, others[0]))
        return found

    def of_loop(self, rows, begins, ends, applied):
        found = [(begins[name], ends[name]) for name in ends]
        for name, step, words in rows:
            term = (step, *[ends.get(word, begins[word]) for word in words])
            found.append((term, ends[name]))
        fitting = [[term for term in applied if term[0] == step or ("below", step, term[0]) in self.traits]
                   for _, step, _ in rows]
        for chosen in product(*fitting):
            if self.fits(rows, begins, ends, chosen):
                found += self.bounded(rows, begins, ends, chosen)
        return found

    def fits(self, rows, begins, ends, chosen):
        for (_, _, words), term in zip(rows, chosen):
            for word, part in zip(words, term[1:]):
                if not self.knows(begins[word], part):
                    return False
                for (name, _, _), other in zip(rows, chosen):
                    if word in ends and name == word and not self.knows(other, part):
                        return False
        return True

    def bounded(self, rows, begins, ends, chosen):
        found = []
        for name in ends:
            below = [begins[name]] + [term for (at, _, _), term in zip(rows, chosen) if at == name]
            found += [(ends[name], term) for term in self.present if all(self.knows(low, term) for low in below)]
        return found

    def less_known(self, low, high):
        return (low, high) in self.less

    def go_on(self):
        """Whether the claim is seen where the runs stop."""
        claim = self.claim
        held = {name: ("name", name) for name in claim.names}
        try:
            for said in claim.supposed:
                low, high = self.worth(said.left, held), self.worth(said.right, held)
                self.tell(low, "<" if said.sign == "<" else "<=", high)
                if said.sign == "==":
                    self.tell(high, "<=", low)
            programs = [claim.p, claim.p] if self.turned else [claim.p] + ([claim.q] if hasattr(claim, "q") else [])
            ends = []
            for number, program in enumerate(programs):
                begun = dict(held)
                if self.turned and number == 1:
                    begun[claim.into] = ("name", claim.into + "'")
                ends.append(self.course(number, program, begun))
            return self.judge(ends)
        except Stuck:
            return False

    def judge(self, ends):
        claim = self.claim
        kind = claim.__class__.__name__
        words, helds, entered = [end[0] for end in ends], [end[1] for end in ends], ends[0][2]
        if kind == "NeverTaken":
            return (claim.at, claim.side) not in entered
        if kind == "NeverRefuses":
            return words[0] is None or (claim.words != () and words[0] not in claim.words)
        if kind == "Alike":
            if words[0] is not None or words[1] is not None:
                return words[0] == words[1]
            return all(self.knows(helds[0][name], helds[1][name]) and self.knows(helds[1][name], helds[0][name])
                       for name in claim.wanted)
        if any(word is not None for word in words):
            return True
        if kind == "Always":
            said = claim.comparison
            low, high = self.worth(said.left, helds[0]), self.worth(said.right, helds[0])
            if said.sign == "<":
                return self.less_known(low, high)
            return self.knows(low, high) and (said.sign == "<=" or self.knows(high, low))
        out = claim.name if kind == "NeverAbove" else claim.out
        return self.knows(*[helds[at][out] for at in ((1, 0) if kind == "Falls" else (0, 1))])

    def worth(self, expr, held):
        if expr.kind == "name":
            return held[expr.word]
        parts = [self.worth(part, held) for part in expr.parts]
        if expr.kind == "step":
            self.present.add((expr.step.name, *parts))
            return (expr.step.name, *parts)
        low, high = parts if self.knows(*parts) else parts[::-1]
        if not self.knows(low, high):
            raise Stuck
        return low if expr.kind == "lesser" else high

    def course(self, number, program, held):
        """The word of a refusal or None, what is held, and the sides that were entered."""
        entered = []
        word = self.rows(number, program.rows, 0, held, entered)
        return word, held, entered

    def rows(self, number, rows, at, held, entered):
        for row in rows:
            word = self.row(number, row, at, held, entered)
            if word is not None:
                return word
            at += lines(row)
        return None

    def row(self, number, row, at, held, entered):
        kind = row.__class__.__name__
        if kind == "Refuse":
            return row.word
        if kind == "Still":
            self.loop(number, row, at, held)
        elif kind == "If":
            low, high = self.worth(row.left, held), self.worth(row.right, held)
            if self.knows(low, high):
                entered.append((at, True))
                return self.rows(number, row.rows, at + 1, held, entered)
            if not self.less_known(high, low):
                raise Stuck
            entered.append((at, False))
            return self.rows(number, row.others, at + 1 + sum(lines(inner) for inner in row.rows), held, entered)
        else:
            expr = {"Put": row.expr, "Raise": row.name | row.expr, "Lower": row.name & row.expr}[kind]
            held[row.name] = self.worth(expr, held)
        return None

    def loop(self, number, row, at, held):
        ends = {inner.name: ("end", number, at, inner.name) for inner in row.rows}
        begins = dict(held)
        rows = [(inner.name, inner.expr.step.name, [part.word for part in inner.expr.parts]) for inner in row.rows]
        self.present |= set(ends.values())
        for _, step, words in rows:
            self.present.add((step, *[ends.get(word, begins[word]) for word in words]))
        self.loops[number, at] = (rows, begins, ends)
        held.update(ends)


def lines(row):
    """The number of rows in a row, itself too."""
    return 1 + sum(lines(inner) for part in ("rows", "others") for inner in getattr(row, part, ()))


def term_of(value, at):
    """The term of a text at a place; None if it is none."""
    plain = {text(term): term for term in at.present if is_plain(term)}
    found = []

    def read(place):
        for word in sorted(plain, key=len, reverse=True):
            if value.startswith(word, place) and value[place + len(word):place + len(word) + 1] in ("", ",", ")"):
                return plain[word], place + len(word)
        for step, ways in at.ways.items():
            if value.startswith(step + "(", place):
                parts, stop = [], place + len(step) + 1
                for number in range(len(ways)):
                    if number:
                        if value[stop:stop + 2] != ", ":
                            return None, 0
                        stop += 2
                    part, stop = read(stop)
                    if part is None:
                        return None, 0
                    parts.append(part)
                if value[stop:stop + 1] == ")":
                    return (step, *parts), stop + 1
        return None, 0

    if isinstance(value, str):
        term, stop = read(0)
        if term is not None and stop == len(value) and depth(term) <= 20:
            found.append(term)
    return found[0] if found else None


def is_right(claim, traits, tree, told=(), terms=()):
    """Whether any value is a right tree of the claim where so much is told."""
    traits = Traits() if traits is None else traits
    if not isinstance(tree, tuple) or len(tree) not in (0, 4):
        return False
    at = At(claim, traits, told, terms)
    if not tree:
        return at.impossible or at.seen
    if at.impossible:
        return False
    low, high = term_of(tree[0], at), term_of(tree[1], at)
    if low is None or high is None:
        return False
    terms = (*terms, low, high)
    return (is_right(claim, traits, tree[2], (*told, (low, "<=", high)), terms)
            and is_right(claim, traits, tree[3], (*told, (high, "<", low)), terms))
