"""Point 20: worlds, their rules and their cases."""

import unittest

from seenrows.errors import BadPrime, BadRow, BadWidth
from seenrows.filters import Filter
from seenrows.sequences import Sequence
from seenrows.solving import solve
from seenrows.tables import Table
from seenrows.worlds import Watcher, World
from tests.plain import (
    NO_LISTS, NO_PRIMES, PRIMES, chance_of, slow_filtered, some_digits, some_divisor, some_filter, some_rows,
    some_sequence,
)
from tests.test_tables import NO_ROWS, NO_WIDTHS

ONE, STEP = Filter(3, [(0, 1)]), Filter(3, [(0, 2), (1, 1)])
PLUS = Filter(3, [(0, 1), (1, 1)])
NONE = Filter(3)


def some_case(chance, prime):
    """A rule of a world of two sequences, and a case: the first one is chosen, the second one is solved for."""
    f, g = some_filter(chance, prime), some_divisor(chance, prime, 4, 6)
    x = some_sequence(chance, prime)
    return [f, g], [x, solve(g, -f(x), some_digits(chance, prime, g.span()))]


class Making(unittest.TestCase):
    def test_attributes_and_rules(self):
        world = World(3, 2, [[ONE, STEP], (NONE, ONE)])
        self.assertEqual((world.prime, world.width), (3, 2))
        self.assertEqual(world.rules(), Table(3, 2, [[ONE, STEP], [NONE, ONE]]))
        self.assertEqual(World(prime=3, width=2, rules=((ONE, STEP), (NONE, ONE))).rules(), world.rules())

    def test_without_rules(self):
        for world in (World(5, 3), World(5, 3, ()), World(5, 3, []), World(prime=5, width=3)):
            self.assertEqual((world.prime, world.width, world.rules()), (5, 3, Table(5, 3)))
        self.assertEqual(World(2, 10 ** 30).width, 10 ** 30)

    def test_what_is_passed_is_copied_and_not_changed(self):
        row, rules = [ONE, STEP], [[NONE, ONE]]
        rules.append(row)
        world = World(3, 2, rules)
        self.assertEqual(rules, [[NONE, ONE], [ONE, STEP]])
        row[0] = NONE
        rules.append([ONE, ONE])
        self.assertEqual(world.rules().rows(), [[NONE, ONE], [ONE, STEP]])
        world.rules().rows().append(None)
        self.assertEqual(len(world.rules()), 2)

    def test_no_primes(self):
        for thing in NO_PRIMES:
            for width, rules in ((1, ()), (None, None), (0, [None])):
                with self.subTest(thing=thing), self.assertRaises(BadPrime) as caught:
                    World(thing, width, rules)
                self.assertIs(caught.exception.prime, thing)

    def test_no_widths(self):
        for thing in NO_WIDTHS:
            for rules in ((), None, [None]):
                with self.subTest(thing=thing), self.assertRaises(BadWidth) as caught:
                    World(3, thing, rules)
                self.assertIs(caught.exception.width, thing)

    def test_no_rows(self):
        for thing in tuple(NO_LISTS) + (Table(3, 2), World(3, 2)):
            with self.subTest(thing=thing), self.assertRaises(BadRow) as caught:
                World(3, 2, thing)
            self.assertEqual(caught.exception.index, 0)
        for thing in NO_ROWS:
            for rules, at in (([thing], 0), ([[ONE, ONE], thing, None], 1), (((ONE, NONE), [ONE, ONE], thing), 2)):
                with self.subTest(thing=thing), self.assertRaises(BadRow) as caught:
                    World(prime=3, width=2, rules=rules)
                self.assertEqual(caught.exception.index, at)


class Cases(unittest.TestCase):
    def test_a_small_world(self):
        world = World(3, 2, [[STEP, 2 * ONE]])
        x = Sequence.repeated(3, [0, 1, 1, 2])
        self.assertIs(world.is_case([x, STEP(x)]), True)
        self.assertIs(world.is_case((x, STEP(x))), True)
        self.assertIs(world.is_case(thing=[x, STEP(x)]), True)
        self.assertIs(world.is_case([STEP(x), x]), False)
        self.assertIs(world.is_case([x, x]), False)
        self.assertIs(world.is_case([x, STEP(x) + Sequence.repeated(3, [1])]), False)

    def test_every_rule_counts(self):
        world = World(3, 1, [[STEP * PLUS], [STEP * Filter(3, [(0, 1), (2, 1)])]])
        for x, known in (
            (Sequence(STEP, [1]), True), (Sequence(PLUS, [1]), False), (Sequence(ONE, []), True),
            (Sequence.repeated(3, [2]), True), (Sequence.repeated(3, [1, 0, 2, 0]), False), (Sequence.zero(3), True),
        ):
            self.assertIs(world.is_case([x]), known)

    def test_against_the_plain_way(self):
        chance = chance_of(201)
        for prime in PRIMES:
            for k in range(10):
                rule, case = some_case(chance, prime)
                world = World(prime, 2, [rule])
                self.assertIs(world.is_case(case), True)
                for at in (-9, 0, 4, 10 ** 31, -(10 ** 31)):
                    plain = sum(slow_filtered(f, lambda place: x[place], at) for f, x in zip(rule, case))
                    self.assertEqual(plain % prime, 0)
                for x in (some_sequence(chance, prime), Sequence.repeated(prime, [0, 1])):
                    changed = [case[0], case[1] + x]
                    self.assertIs(world.is_case(changed), not rule[1](x))

    def test_without_rules_every_list_is_a_case(self):
        chance = chance_of(202)
        for prime in PRIMES:
            xs = [some_sequence(chance, prime) for column in range(3)]
            self.assertIs(World(prime, 3).is_case(xs), True)
            self.assertIs(World(prime, 3, [[Filter(prime)] * 3]).is_case(tuple(xs)), True)
            self.assertIs(World(prime, 2).is_case(xs), False)

    def test_what_is_no_list_of_sequences(self):
        x = Sequence.zero(3)
        for world in (World(3, 2), World(3, 2, [[ONE, STEP]])):
            for thing in tuple(NO_LISTS) + (
                x, [], (), [x], (x,), [x, x, x], [x, None], [None, x], (x, ONE), [x, [x]], [[x, x]],
                [x, Sequence.zero(2)], (Sequence.zero(5), x), [x, 0], {0: x, 1: x}, world, Table(3, 2), [True, x],
                Watcher(world), [0, 0], [x, "0"],
            ):
                with self.subTest(thing=thing):
                    self.assertIs(world.is_case(thing), False)

    def test_zeros(self):
        world = World(5, 3, [[Filter(5, [(0, 1)])] * 3])
        self.assertEqual(world.zeros(), [Sequence.zero(5)] * 3)
        self.assertIs(world.is_case(world.zeros()), True)
        got = world.zeros()
        got.pop()
        self.assertEqual(len(world.zeros()), 3)

    def test_a_case_stays_as_it_is(self):
        world, case = World(3, 1, [[STEP]]), [Sequence.repeated(3, [1])]
        self.assertIs(world.is_case(case), True)
        self.assertEqual(case, [Sequence.repeated(3, [1])])


class Equality(unittest.TestCase):
    def test_same_cases(self):
        world = World(3, 2, [[ONE, STEP], [NONE, STEP]])
        for rules in (
            [[ONE, NONE], [NONE, 2 * STEP]], [[NONE, STEP], [ONE, STEP]], [[ONE, STEP], [NONE, STEP], [NONE, NONE]],
            ((Filter.shift(3, 5), NONE), (STEP, STEP), [NONE, STEP * STEP], [STEP, 2 * STEP]),
        ):
            self.assertIs(world == World(3, 2, rules), True)
            self.assertIs(world != World(3, 2, rules), False)
        self.assertEqual(World(3, 2), World(3, 2, [[NONE, NONE]]))

    def test_other_cases(self):
        world = World(3, 2, [[ONE, STEP]])
        for other in (
            World(3, 2), World(3, 2, [[ONE, PLUS]]), World(3, 2, [[STEP, STEP * STEP]]), World(3, 2, [[STEP, ONE]]),
            World(3, 2, [[ONE, STEP], [NONE, ONE]]), World(3, 3), World(2, 2), World(3, 1),
        ):
            self.assertIs(world == other, False)
            self.assertIs(other == world, False)
            self.assertIs(world != other, True)
        self.assertNotEqual(World(3, 2), World(3, 1))
        self.assertNotEqual(World(3, 2), World(5, 2))

    def test_combinations_decide(self):
        chance = chance_of(203)
        for prime in PRIMES:
            for k in range(10):
                one, two = some_rows(chance, prime, 2, 2), some_rows(chance, prime, 2, 2)
                t, u = Table(prime, 2, one), Table(prime, 2, two)
                self.assertIs(World(prime, 2, one) == World(prime, 2, two), t <= u and u <= t)
                self.assertEqual(World(prime, 2, one + two), World(prime, 2, two + one[::-1]))
                self.assertEqual(World(prime, 2, t.least().rows()), World(prime, 2, one))

    def test_a_world_equals_nothing_else(self):
        for world in (World(3, 2), World(3, 2, [[ONE, STEP]])):
            for thing in (
                None, True, 0, "", [], {}, world.rules(), world.rules().rows(), [world], world.nothing(), world.zeros(),
                ONE, (3, 2),
            ):
                self.assertIs(world == thing, False)
                self.assertIs(thing == world, False)
                self.assertIs(world != thing, True)


if __name__ == "__main__":
    unittest.main()
