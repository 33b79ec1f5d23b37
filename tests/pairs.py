"""Pairs of watchers of one world, drawn or built so that the answers are known beforehand."""

from seenrows.division import gcd, lcm
from seenrows.filters import Filter
from seenrows.lacking import missing
from seenrows.worlds import Watcher, World
from tests.plain import (
    PRIMES, chance_of, slow_filtered, slow_sum, some_digits, some_filter, some_rows, some_sequence,
)
from tests.test_combinations import filters


def sum_of(prime, width, factors, rows):
    """The sum of rows, each multiplied by a filter, worked out the plain way."""
    return filters(prime, slow_sum(prime, width, factors, rows))


def rows_of(chance, prime, width, pool, count):
    """Rows, each the sum of rows of the pool with some small filters."""
    return [
        sum_of(prime, width, [some_filter(chance, prime, 2, 1) for row in pool], pool)
        for k in range(chance.randint(0, count))
    ]


def some_pairs(seed, count, rules=2, rows=3, width=3):
    """Two watchers of one world; what they see is combined from few rows, so the one often tells of the other."""
    chance = chance_of(seed)
    for prime in PRIMES:
        for k in range(count):
            wide = chance.randint(1, width)
            pool = some_rows(chance, prime, wide, chance.randint(1, 3), 2, 1)
            world = World(prime, wide, rows_of(chance, prime, wide, pool[:2], rules if chance.random() < 0.6 else 0))
            P, Q = [Watcher(world, rows_of(chance, prime, wide, pool, rows)) for n in range(2)]
            if len(P) and chance.random() < 0.3:
                Q = Watcher(world, rows_of(chance, prime, wide, P.rows() + world.rules().rows(), rows))
            yield chance, P, Q


def special_pairs():
    """Watchers without rows, silent ones, those of everything, beside themselves, and of equal worlds told otherwise."""
    one, step, none = Filter(3, [(0, 1)]), Filter(3, [(0, 2), (1, 1)]), Filter(3)
    plus = Filter(3, [(0, 1), (1, 1)])
    free, ruled = World(3, 2), World(3, 2, [[step, one]])
    same = World(3, 2, [[2 * step, 2 * one], [step * plus, plus], [none, none]])
    shut = World(3, 2, [[one, none], [none, one]])
    tight = World(3, 2, [[step, one], [none, plus * plus]])
    for world in (free, ruled, shut, tight):
        told = [
            world.nothing(), world.everything(), Watcher(world, world.rules().rows()), Watcher(world, [[none, none]]),
            Watcher(world, [[one, none]]), Watcher(world, [[none, plus * step], [plus, none]]),
        ]
        yield from [(P, Q) for P in told for Q in told]
    yield ruled.everything(), Watcher(same, [[one, plus]])
    yield Watcher(same, [[step, none]]), ruled.everything()
    yield Watcher(same, [[plus * step, none]]), Watcher(ruled, [[none, one], [plus, plus]])


def all_pairs(seed, count, **told):
    """Drawn pairs, then each third of the special ones."""
    chance = chance_of(seed + 1)
    yield from some_pairs(seed, count, **told)
    for P, Q in list(special_pairs())[seed % 3::3]:
        yield chance, P, Q


def some_case(chance, watcher, span=3):
    """A case of the watcher's world; is_case, which looks at the rules alone, says that it is one."""
    world = watcher.world
    free = missing(world.nothing(), world.everything())
    shown = [some_sequence(chance, world.prime, span) for row in free.rows()]
    case = free.case(shown, some_digits(chance, world.prime, free.counts[1]))
    assert world.is_case(case)
    return case


def digit_at(row, case, place):
    """The digit that a row gives at a place, summed up from the digits of the case."""
    return sum(slow_filtered(f, x.__getitem__, place) for f, x in zip(row, case) if f) % case[0].prime


def row_digits(row, case, first, last):
    """The digits that a row gives at the places first to last - 1, summed up from the digits of the case."""
    total = [0] * (last - first)
    for f, x in zip(row, case):
        if f:
            held = x.digits(first + f.low(), last - first + f.span())
            for at in range(last - first):
                total[at] += sum(c * held[at + o - f.low()] for o, c in f.terms())
    return [digit % case[0].prime for digit in total]


def mixing(chance, prime, width, steps=3):
    """Rows that mix columns so that it can be undone: a column at a time gets a multiple of another one."""
    rows = [[Filter(prime, [(0, 1)] if at == column else []) for at in range(width)] for column in range(width)]
    for step in range(steps if width > 1 else 0):
        into, other = chance.sample(range(width), 2)
        f = some_filter(chance, prime, 2, 2)
        rows[into] = [a + f * b for a, b in zip(rows[into], rows[other])]
    return rows


def apart(prime, told, mixed):
    """The rows that have one of the told filters each, in columns of their own, and then are mixed."""
    return [[f * g for g in row] for f, row in zip(told, mixed)]


def known_pairs(seed, count):
    """Two watchers, what the first one lacks of the second one, and the word that leak has for them.

    Both see multiples of sequences of their own, so the answers are read off column by column; then all is mixed.
    """
    chance = chance_of(seed)
    for prime in PRIMES:
        for k in range(count):
            width = chance.randint(1, 3)
            told = [[part(chance, prime) for column in range(width)] for n in range(3)]
            if chance.random() < 0.4:
                for column in range(width):
                    told[chance.choice([1, 2])][column] = Filter(prime)
            mixed = mixing(chance, prime, width)
            world = World(prime, width, apart(prime, told[0], mixed))
            P, Q = [Watcher(world, apart(prime, filters, mixed)) for filters in told[1:]]
            # What P knows may be added to what Q sees.
            more = rows_of(chance, prime, width, P.rows() + world.rules().rows(), 1)
            yield P, Q, known_counts(told), known_word(told), more


def part(chance, prime):
    """No terms, a unit, or a product of a few small filters, some of which come again in other parts."""
    pool = [Filter(prime, [(0, 1), (1, 1)]), Filter(prime, [(0, 1), (1, 1), (2, 1)]), Filter(prime, [(0, 1), (3, -1)])]
    f = Filter(prime, [(chance.randint(-2, 2), 1)] if chance.random() < 0.7 else [])
    for g in pool:
        f = f * g ** chance.choice([0, 0, 1, 2])
    return f


def known_counts(told):
    """The sums over the columns of what is lacking there."""
    sequences = digits = 0
    for rule, mine, its in zip(*told):
        known = gcd(rule, mine)
        both = gcd(known, its)
        if known:
            digits += known.span() - both.span()
        elif both:
            sequences += 1
    return sequences, digits


def known_word(told):
    known = [(gcd(rule, mine), gcd(rule, its), rule.normal()) for rule, mine, its in zip(*told)]
    if all(its == rule for mine, its, rule in known):
        return "known"
    if all(gcd(mine, its) == mine for mine, its, rule in known):
        return "all"
    if all(gcd(lcm(mine, its), rule) == rule for mine, its, rule in known):
        return "nothing"
    return "some"
