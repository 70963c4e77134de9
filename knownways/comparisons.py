"""Comparisons of two expressions."""

from knownways.errors import InvalidClaim
from knownways.exprs import part_expr
from knownways.gathering import all_names, all_steps
from knownways.starts import check_start, worth_of

SIGNS = ("<=", "<", "==")


class Comparison:
    """That one expression is not above, below or equal to another one."""

    def __init__(self, left, sign, right):
        self.left = part_expr(left)
        self.right = part_expr(right)
        if sign not in SIGNS:
            raise InvalidClaim("sign")
        self.sign = sign
        self.names = all_names((self.left, self.right))
        self.steps = all_steps((self.left, self.right))

    def holds(self, world, start):
        """Whether it holds between the values in a world from a start."""
        check_start(world, self, start)
        left = worth_of(self.left, world, start)
        right = worth_of(self.right, world, start)
        if self.sign == "==":
            return left == right
        return left < right if self.sign == "<" else left <= right

    def __eq__(self, other):
        return (isinstance(other, Comparison) and self.left == other.left and self.sign == other.sign
                and self.right == other.right)

    def __str__(self):
        return f"{self.left} {self.sign} {self.right}"
