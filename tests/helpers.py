"""What several tests use: strict comparison, any values, small bonds, lots and fractions by their definitions."""

from fractions import Fraction
from functools import lru_cache
from itertools import combinations, product
from random import Random

from setitback.errors import Broken, NoFilling, OwnError, Refused


def same(one, other):
    """Whether two values are equal, of the same kinds throughout: no list is a tuple, no bool an integer."""
    if type(one) is not type(other):
        return False
    if isinstance(one, (list, tuple)):
        return len(one) == len(other) and all(same(x, y) for x, y in zip(one, other))
    return one is other if isinstance(one, Exception) else one == other


def listed(value):
    """The same value with lists in place of tuples, throughout."""
    return [listed(part) for part in value] if isinstance(value, (list, tuple)) else value


def deep(many):
    value = 0
    for _ in range(many):
        value = (value,)
    return value


def any_values():
    """Values of every kind that can be passed."""
    return [
        None, True, False, "", "0", "01", "flow", "quotient", -1, 6, 7, 400, 10 ** 30, -(10 ** 30), (), [], (None,), [True],
        ((),), [[], []], (-1,), [-1], (0, -1), (True, 0), (0, True), (False, 0), (0, False), (1, 6), (2, 0), (0, 0, 0),
        "ab", ("0", 1), (0, "1"), (None, None), (0, None), [[0, 0], 1], ((0, 0), (0,)), ((0, 0), (0, True)), (7, 7), (9, 9),
        Refused(0), Broken(None), NoFilling(()), (OwnError("x"), 0), [0, [1, [2, [3]]]], deep(50), listed(deep(49)), ("flow",),
        ("flow", "cut"), ("cut", ()), ("carried", None), ("crossed", 0), ("barred", 0), ("anywhere", 0, (), 1), (None, 0, ()),
        (1, 1, ((0, True),)), (1, 1, ((False, 0),)), (True, 1, ((0, 0),)), (0, ((0, 0),)), (0, ((0, 0),), (((0,), (False,)),)),
    ]


class Checks:
    """Assertions beside those of a test case."""

    def told(self, expected, found):
        self.assertTrue(same(expected, found), f"expected {expected!r}, found {found!r}")

    def raised(self, kind, attribute, kept, call, *args, **named):
        """Assert that a call raises just this error, with this value in the attribute."""
        try:
            found = call(*args, **named)
        except Exception as error:
            if type(error) is not kind:
                raise AssertionError(f"{type(error)} instead of {kind}: {call.__name__}{args}") from error
            self.assertTrue(same(kept, getattr(error, attribute)), (call.__name__, args, getattr(error, attribute)))
            if not isinstance(kept, int) or isinstance(kept, bool):
                self.assertIs(getattr(error, attribute), kept)
            return error
        raise AssertionError(f"no {kind} from {call.__name__}{args}, but {found!r}")

    def takes_lists(self, call, *args):
        """Assert that lists are as tuples, that they stay unchanged, and that equal calls tell equal results."""
        expected = call(*args)
        passed = [listed(arg) for arg in args]
        self.told(expected, call(*passed))
        self.told([listed(arg) for arg in args], passed)
        self.told(expected, call(*args))


def refuses(case, kind, attribute, call, before, right, behind=()):
    """Assert that a call raises for any value at one place, unless `right` tells that it is a right one there."""
    many = 0
    for value in any_values():
        if not right(value):
            case.raised(kind, attribute, value, call, *before, value, *behind)
            many += 1
    case.assertGreater(many, 10)


def never(value):
    return False


def bonds_of(m, n):
    """All bonds of these sizes."""
    every = list(product(range(m), range(n)))
    for which in range(1 << len(every)):
        pairs = tuple(pair for at, pair in enumerate(every) if which >> at & 1)
        if len({s for s, _ in pairs}) == m and len({t for _, t in pairs}) == n:
            yield m, n, pairs


def small_bonds(most=3):
    for m in range(1, most + 1):
        for n in range(1, most + 1):
            yield from bonds_of(m, n)


def some_bonds(seed, many, most=6):
    """Bonds of sizes up to the most, always the same for one seed."""
    random = Random(seed)
    found = []
    while len(found) < many:
        m, n, part = random.randint(1, most), random.randint(1, most), random.randint(2, 9)
        pairs = tuple(pair for pair in product(range(m), range(n)) if random.randrange(10) < part)
        if len({s for s, _ in pairs}) == m and len({t for _, t in pairs}) == n:
            found.append((m, n, pairs))
    return found


def full(m, n):
    return m, n, tuple(product(range(m), range(n)))


@lru_cache(None)
def lots(many):
    """All lots of so many fillings: of fewer first, then ascending."""
    return [lot for size in range(1, many + 1) for lot in combinations(range(many), size)]


@lru_cache(None)
def fitting(bond, side, lot):
    """What fits something of the lot, by its definition."""
    return tuple(sorted({pair[1 - side] for pair in bond[2] if pair[side] in lot}))


@lru_cache(None)
def worth(bond, side, lot):
    return Fraction(len(lot), len(fitting(bond, side, lot)))


@lru_cache(None)
def best(bond, side):
    """The greatest quotient of a side."""
    return max(worth(bond, side, lot) for lot in lots(bond[side]))


def is_even(bond):
    return best(bond, 0) * best(bond, 1) == 1


def parts(fraction):
    return fraction.numerator, fraction.denominator


def is_tuples(value):
    """Whether there is no list in a value."""
    if isinstance(value, list):
        return False
    return not isinstance(value, tuple) or all(is_tuples(part) for part in value)


# The smallest wrong and right arguments that many tests pass.
VIEW = (2, 3, ((0, 0), (0, 1), (1, 1), (1, 2)))
EVEN = (2, 2, ((0, 0), (1, 0), (1, 1)))
DESK = (3, 2, ((0, 0), (1, 0), (2, 0), (2, 1)))


def settings(bond):
    return [(side, filling) for side in (0, 1) for filling in range(bond[side])]


def all_machines(bond, many):
    """All machines of a bond with so many situations."""
    for kinds in product(bond[2], repeat=many):
        choices = [[x for x in range(many) if kinds[x][side] == filling] for side, filling in settings(bond)]
        if all(choices):
            for flat in product(*choices * many):
                wide = sum(bond[:2])
                rows = [flat[at * wide:(at + 1) * wide] for at in range(many)]
                for start in range(many):
                    yield start, kinds, tuple((row[:bond[0]], row[bond[0]:]) for row in rows)


def some_machine(random, bond, many):
    """A machine of a bond with so many situations, at least as many as the bond has pairs."""
    kinds = list(bond[2]) + [random.choice(bond[2]) for _ in range(many - len(bond[2]))]
    random.shuffle(kinds)
    having = {(side, filling): [x for x in range(many) if kinds[x][side] == filling] for side, filling in settings(bond)}
    moves = tuple(tuple(tuple(random.choice(having[side, filling]) for filling in range(bond[side])) for side in (0, 1))
                  for _ in range(many))
    return random.randrange(many), tuple(kinds), moves


def some_machines(seed, many, most=7):
    """Machines of small bonds with up to so many situations, with their bonds, always the same for one seed."""
    random = Random(seed)
    bonds = [bond for bond in small_bonds(3) if len(bond[2]) <= most]
    found = []
    while len(found) < many:
        bond = random.choice(bonds)
        found.append((bond, some_machine(random, bond, random.randint(len(bond[2]), most))))
    return found


def step(machine, situation, setting):
    return machine[2][situation][setting[0]][setting[1]]


def walk(machine, situation, run):
    for setting in run:
        situation = step(machine, situation, setting)
    return situation


def runs(bond, most):
    """All runs of up to so many settings: shorter ones first, then ascending."""
    for many in range(most + 1):
        yield from product(settings(bond), repeat=many)


# Of (0, kinds, moves) on the bond EVEN below, what is wrong, and where BadMachine finds it.
RIGHT = (0, ((0, 0), (1, 1), (1, 0)), (((0, 2), (0, 1)), ((0, 1), (2, 1)), ((0, 2), (2, 1))))
KINDS, MOVES = RIGHT[1:]
NO_MACHINES = [
    (None, -1), (True, -1), (0, -1), ("012", -1), ((), -1), ((0, KINDS), -1), ((0, KINDS, MOVES, 0), -1), (Refused(0), -1),
    ((0, None, MOVES), 1), ((0, (), MOVES), 1), ((0, "00", MOVES), 1), ((0, 3, MOVES), 1), ((None, (), None), 1),
    ((0, ((0, 0), (1, 1), (0, 6)), MOVES), 1), ((0, ((0, 0), (1, 1), (1, False)), MOVES), 1), ((0, ((0, 0), (1, 1), (1,)), MOVES), 1),
    ((0, ((0, 0), (1, 1), (1, 0, 0)), MOVES), 1), ((0, ((0, 0), (1, 1), (-1, 0)), MOVES), 1), ((0, ((0, 0), (1, 1), None), MOVES), 1),
    ((0, ((0, 0), (1, 1), "10"), MOVES), 1), ((9, ((0, 0), (True, 1), (1, 0)), None), 1), ((0, ((0, 0),) * 401, MOVES), 1),
    ((3, KINDS, None), 0), ((-1, KINDS, MOVES), 0), ((None, KINDS, MOVES), 0), ((True, KINDS, MOVES), 0), ((False, KINDS, MOVES), 0),
    (("0", KINDS, MOVES), 0), (((0,), KINDS, MOVES), 0), ((10 ** 30, KINDS, ()), 0),
    ((0, KINDS, None), 2), ((0, KINDS, ()), 2), ((0, KINDS, "012"), 2), ((0, KINDS, MOVES[:2]), 2), ((0, KINDS, MOVES + MOVES[:1]), 2),
    ((0, KINDS, (*MOVES[:2], None)), 2), ((0, KINDS, (*MOVES[:2], ((0, 2),))), 2), ((0, KINDS, (*MOVES[:2], ((0, 2), (2, 1), ()))), 2),
    ((0, KINDS, (*MOVES[:2], ((0,), (2, 1)))), 2), ((0, KINDS, (*MOVES[:2], ((0, 2), (2, 1, 1)))), 2),
    ((0, KINDS, (*MOVES[:2], ((0, 2), None))), 2), ((0, KINDS, (*MOVES[:2], ((0, 2), "21"))), 2),
    ((0, KINDS, (*MOVES[:2], ((0, 3), (2, 1)))), 2), ((0, KINDS, (*MOVES[:2], ((0, -1), (2, 1)))), 2),
    ((0, KINDS, (*MOVES[:2], ((0, 2), (2, True)))), 2), ((0, KINDS, (*MOVES[:2], ((False, 2), (2, 1)))), 2),
    ((0, KINDS, (*MOVES[:2], ((None, 2), (2, 1)))), 2), ((0, KINDS, (*MOVES[:2], ((1, 2), (2, 1)))), 2),
    ((0, KINDS, (*MOVES[:2], ((0, 0), (2, 1)))), 2), ((0, KINDS, (*MOVES[:2], ((0, 2), (1, 1)))), 2),
    ((0, KINDS, (((0, 2), (0, 0)), *MOVES[1:])), 2),
]


def uneven_bonds(seed, many, most=6):
    """Bonds whose greatest quotients come to more than 1, always the same for one seed."""
    random = Random(seed)
    found = {}
    while len(found) < many:
        m, n = random.randint(2, most), random.randint(1, most)
        pairs = {(s, random.randrange(n)) for s in range(m)} | {(random.randrange(m), t) for t in range(n)}
        pairs |= {(random.randrange(m), random.randrange(n)) for _ in range(random.randrange(6))}
        bond = (m, n, tuple(sorted(pairs)))
        if not is_even(bond):
            found[bond] = True
    return list(found)
