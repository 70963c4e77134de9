"""The examples of the document, word for word."""

import unittest

from knownways import errors

EXAMPLES = r'''
>>> from knownways.steps import Step
>>> h = Step('h', '+-')
>>> (h.name, h.ways, len(h), str(h))
('h', '+-', 2, 'h +-')

>>> from knownways.steps import Step
>>> Step('if', '+')
raises InvalidStep('name')

>>> from knownways.steps import Step
>>> f = Step('f', '+')
>>> g = Step('g', '-')
>>> chain = f * g ** 2
>>> (str(chain), len(chain), str(chain('x')))
('f g g', 3, 'f(g(g(x)))')

>>> from knownways.steps import Step
>>> f = Step('f', '+')
>>> (str(f('x') & 'y'), str('y' | f('x')), len(f('x') & 'y'))
('lesser(f(x), y)', 'greater(y, f(x))', 4)

>>> from knownways.steps import Step
>>> Step('f', '+')('x', 'y')
raises InvalidExpr('count')

>>> from knownways.steps import Step
>>> from knownways.traits import Trait, Traits
>>> f = Step('f', '+')
>>> g = Step('g', '+')
>>> told = Traits(Trait('up', f), Trait('below', f, g))
>>> (str(told), len(told), Trait('up', f) in told, told.is_part_of(Traits(Trait('up', f))))
('below f g\nup f', 2, True, False)

>>> from knownways.steps import Step
>>> from knownways.traits import Trait
>>> Trait('up', Step('f', '-'))
raises InvalidTrait('ways')

>>> from knownways.steps import Step
>>> from knownways.traits import Trait, Traits
>>> f = Step('f', '+')
>>> g = Step('g', '+')
>>> Traits(Trait('below', f, g), Trait('settled', g))
raises InvalidTrait('below')

>>> from knownways.steps import Step
>>> from knownways.reader import read
>>> f = Step('f', '+')
>>> p = read('if x <= f(y)\ny |= f(x)\nelse\nrefuse no\nend', [f])
>>> (len(p), p.weight, p.words, str(p[1]))
(3, 2, ('no',), 'y |= f(x)')

>>> from knownways.steps import Step
>>> from knownways.reader import read
>>> f = Step('f', '+')
>>> read('still\nx |= f(x)\nx = y\nend', [f])
raises InvalidText(2)

>>> from knownways.steps import Step
>>> from knownways.programs import Draft
>>> from knownways.rows import Put
>>> f = Step('f', '+')
>>> draft = Draft()
>>> draft.add(Put('x', f('y')))
>>> (str(draft.program()), len(draft))
('x = f(y)', 1)

>>> from knownways.steps import Step
>>> from knownways.reader import read
>>> from knownways.running import run
>>> from knownways.worlds import World
>>> f = Step('f', '+')
>>> world = World(3, [(f, (1, 2, 2))])
>>> run(read('still\nx |= f(x)\nend', [f]), world, {'x': 0}).held
{'x': 2}

>>> from knownways.steps import Step
>>> from knownways.reader import read
>>> from knownways.running import run
>>> from knownways.worlds import World
>>> f = Step('f', '+')
>>> p = read('if x <= f(y)\ny |= f(x)\nelse\nrefuse no\nend', [f])
>>> end = run(p, World(3, [(f, (1, 2, 2))]), {'x': 2, 'y': 0})
>>> (end.refused, end.at, end.held)
('no', 2, {'x': 2, 'y': 0})

>>> from knownways.steps import Step
>>> from knownways.worlds import World
>>> World(3, [(Step('f', '+'), (2, 1, 2))])
raises InvalidWorld('ways')

>>> from knownways.steps import Step
>>> from knownways.traits import Trait, Traits
>>> from knownways.worlds import World
>>> f = Step('f', '+')
>>> world = World(3, [(f, (1, 2, 2))])
>>> (world.keeps(Traits(Trait('up', f))), world.keeps(Traits(Trait('settled', f))), world.value(f(f('x')), {'x': 0}))
(True, False, 2)

>>> from knownways.steps import Step
>>> from knownways.worlds import worlds
>>> f = Step('f', '+')
>>> every = list(worlds([f], 2))
>>> (len(every), every[1][f])
(3, (0, 1))

>>> from knownways.steps import Step
>>> from knownways.claims import Always
>>> from knownways.comparisons import Comparison
>>> from knownways.deciding import holds
>>> from knownways.programs import Program
>>> f = Step('f', '+')
>>> one = Always(Program(), Comparison('x', '<=', f('x')), supposed=[Comparison('x', '<=', f(f('x')))])
>>> other = Always(Program(), Comparison('x', '<=', f('x')))
>>> (holds(one), holds(other))
(True, False)

>>> from knownways.steps import Step
>>> from knownways.claims import Always
>>> from knownways.comparisons import Comparison
>>> from knownways.programs import Program
>>> from knownways.trees import tree_holds
>>> f = Step('f', '+')
>>> one = Always(Program(), Comparison('x', '<=', f('x')), supposed=[Comparison('x', '<=', f(f('x')))])
>>> (tree_holds(one, None, ('x', 'f(x)', (), ())), tree_holds(one, None, ()))
(True, False)

>>> from knownways.steps import Step
>>> from knownways.claims import Always
>>> from knownways.comparisons import Comparison
>>> from knownways.deciding import breach
>>> from knownways.programs import Program
>>> f = Step('f', '+')
>>> found = breach(Always(Program(), Comparison('x', '<=', f('x'))))
>>> (found.world.size, found.world[f], found.start, found.other)
(2, (0, 0), {'x': 1}, None)

>>> from knownways.treetexts import read_tree, show_tree
>>> text = show_tree(('x', 'f(x)', (), ()))
>>> (text, read_tree(text))
('x <= f(x)\n  so\nf(x) < x\n  so', ('x', 'f(x)', (), ()))

>>> from knownways.steps import Step
>>> from knownways.claims import NeverAbove
>>> from knownways.needed import greatest_failing, least_traits
>>> from knownways.programs import Program
>>> from knownways.rows import Put
>>> from knownways.traits import Trait, Traits
>>> f = Step('f', '+')
>>> g = Step('g', '+')
>>> claim = NeverAbove(Program(), Program([Put('x', f('x'))]), 'x')
>>> told = Traits(Trait('up', f), Trait('up', g), Trait('below', g, f))
>>> least, failing = least_traits(claim, told), greatest_failing(claim, told)
>>> (len(least), str(least[0]), str(least[1]), len(failing), str(failing[0]), str(failing[1]))
(2, 'up f', 'below g f\nup g', 2, 'below g f', 'up g')

>>> from knownways.steps import Step
>>> from knownways.rows import Raise
>>> from knownways.settling import least_rows, settle_alike
>>> from knownways.traits import Trait, Traits
>>> f = Step('f', '+')
>>> g = Step('g', '+')
>>> rows = [Raise('x', f('x')), Raise('x', g('x'))]
>>> (least_rows(rows, Traits(Trait('below', f, g))), least_rows(rows), settle_alike(rows, [rows[1], rows[0]]))
(((1,),), ((0, 1),), True)

>>> from knownways.steps import Step
>>> from knownways.rows import Raise
>>> from knownways.settling import rounds
>>> f = Step('f', '+')
>>> g = Step('g', '+')
>>> one, other = Raise('x', f('y')), Raise('y', g('z'))
>>> (rounds([one, other]), rounds([other, one]), rounds([Raise('x', f('x'))]))
(2, 1, None)

>>> from knownways.steps import Step
>>> from knownways.orders import best_orders, compare_chains
>>> from knownways.steps import Chain
>>> from knownways.traits import Trait, Traits
>>> f = Step('f', '+')
>>> g = Step('g', '+')
>>> same = Traits(Trait('settled', f))
>>> (compare_chains(Chain(f), Chain(g)), compare_chains(Chain(f, f), Chain(f), same), best_orders([f, g]), len(best_orders([f, g], Traits(Trait('up', f), Trait('down', f)))))
('?', '==', (), 2)

>>> from knownways.steps import Step
>>> from knownways.comparisons import Comparison
>>> from knownways.desk import Desk
>>> from knownways.traits import Trait, Traits
>>> f = Step('f', '+')
>>> desk = Desk(Traits(Trait('up', f)))
>>> desk.suppose(Comparison(f('x'), '<=', 'y'))
>>> (desk.compare('x', 'y'), desk.compare('y', 'x'), len(desk), desk.is_sure(Comparison('x', '<', 'y')))
('<=', '>=', 1, False)

>>> from knownways.steps import Step
>>> from knownways.comparisons import Comparison
>>> from knownways.desk import Desk
>>> from knownways.traits import Trait, Traits
>>> f = Step('f', '+')
>>> desk = Desk(Traits(Trait('up', f)))
>>> desk.suppose(Comparison(f('x'), '<=', 'y'))
>>> desk.suppose(Comparison('y', '<', 'x'))
raises Impossible

>>> from knownways.steps import Step
>>> from knownways.claims import NeverTaken
>>> from knownways.deciding import holds
>>> from knownways.reader import read
>>> from knownways.traits import Trait, Traits
>>> f = Step('f', '+')
>>> claim = NeverTaken(read('if x <= f(x)\nx = f(x)\nend', [f]), 0, False)
>>> (holds(claim, Traits(Trait('up', f))), holds(claim))
(True, False)

>>> from knownways.steps import Step
>>> from knownways.claims import NeverAbove
>>> from knownways.comparisons import Comparison
>>> from knownways.programs import Program
>>> from knownways.rows import Put
>>> f = Step('f', '+')
>>> str(NeverAbove(Program(), Program([Put('x', f('x'))]), 'x', supposed=[Comparison('x', '<', 'y')]))
'above x\nsuppose x < y\nagainst\nx = f(x)'
'''


def told(example):
    """The rows of a session, and the line that it shows."""
    lines = example.strip().split("\n")
    return [line.removeprefix(">>> ") for line in lines[:-1]], lines[-1]


def shown(rows):
    """What a session of these rows shows at its end."""
    names = {}
    for row in rows[:-1]:
        exec(row, names)
    try:
        return repr(eval(rows[-1], names))
    except errors.WaysError as error:
        arguments = ", ".join(repr(value) for value in vars(error).values())
        return f"raises {error.__class__.__name__}" + (f"({arguments})" if arguments else "")


class Examples(unittest.TestCase):

    def test_each_example(self):
        examples = EXAMPLES.strip().split("\n\n")
        self.assertEqual(len(examples), 28)
        for example in examples:
            rows, line = told(example)
            with self.subTest(rows[-1]):
                self.assertEqual(shown(rows), line)


if __name__ == "__main__":
    unittest.main()
