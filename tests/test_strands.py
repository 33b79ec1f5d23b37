"""Points 32 and 33: strands of sequences, and the tables, worlds and watchers of strands."""

import unittest

from seenrows.errors import BadCount, BadPlace, BadPlaces, BadSequences
from seenrows.filters import Filter
from seenrows.lacking import lacks
from seenrows.sequences import Sequence
from seenrows.strands import strand, strand_table, strand_watcher, strand_world, strands, woven
from seenrows.tables import Table
from seenrows.worlds import Watcher, World
from tests.pairs import known_pairs, row_digits, some_case, some_pairs
from tests.plain import FAR, NO_LISTS, PRIMES, chance_of, some_filter, some_rows, some_sequence, told
from tests.test_combinations import wide_table

NO_COUNTS = (
    None, True, False, 0, -1, -4, -FAR, "", "2", "ab", [], [2], (), (2, 3), {}, {2: 2}, Filter(2), Sequence.zero(3),
    Table(3, 2), World(3, 2), World(3, 2).nothing(),
)
NO_PLACES = (None, True, False, "", "0", [], [0], (0,), {}, {0: 0}, Filter(2), Sequence.zero(3), World(3, 2))
ONE, STEP, NONE = Filter(3, [(0, 1)]), Filter(3, [(0, 2), (1, 1)]), Filter(3)


class Strands(unittest.TestCase):
    def test_a_small_one(self):
        x = Sequence.repeated(7, [0, 1, 2, 3, 4, 5])
        self.assertEqual(strand(x, 2, 0), Sequence.repeated(7, [0, 2, 4]))
        self.assertEqual(strand(x, 2, 1), Sequence.repeated(7, [1, 3, 5]))
        self.assertEqual(strands(x, 3), [Sequence.repeated(7, word) for word in ([0, 3], [1, 4], [2, 5])])
        self.assertEqual(strands(x, 4)[3], Sequence.repeated(7, [3, 1, 5]))
        self.assertEqual((strands(x, 1), strand(x, 1, 0)), ([x], x))
        self.assertEqual(strand(x=x, n=2, r=1), strands(x=x, n=2)[1])
        self.assertEqual(type(strands(x, 2)), list)
        self.assertEqual(woven([Sequence.repeated(7, [0, 2, 4]), Sequence.repeated(7, [1, 3, 5])]), x)
        self.assertEqual(woven(parts=(x,)), x)

    def test_digits_near_and_far(self):
        chance = chance_of(321)
        for prime in PRIMES:
            for n in (1, 2, 3, 4, 5):
                for k in range(3):
                    x = some_sequence(chance, prime)
                    parts = strands(x, n)
                    self.assertEqual(len(parts), n)
                    for r, part in enumerate(parts):
                        self.assertEqual(strand(x, n, r), part)
                        self.assertEqual(part.digits(-12, 30), x.digits(-12 * n, 30 * n)[r::n])
                        for place in (FAR + chance.randint(0, 9), -FAR - chance.randint(0, 9)):
                            self.assertEqual(part.digits(place, 3), [x[n * (place + more) + r] for more in range(3)])

    def test_woven_of_strands_and_strands_of_woven(self):
        chance = chance_of(322)
        for prime in PRIMES:
            for n in (1, 2, 3, 4, 6):
                x = some_sequence(chance, prime)
                self.assertEqual(woven(strands(x, n)), x)
                self.assertEqual(woven(tuple(strands(x, n))), x)
                parts = [some_sequence(chance, prime, 4) for k in range(n)]
                before = list(parts)
                y = woven(parts)
                self.assertEqual((strands(y, n), parts), (parts, before))
                for place in (0, -1, 17, FAR, -FAR):
                    self.assertEqual([y[n * place + r] for r in range(n)], [part[place] for part in parts])

    def test_long_rules(self):
        chance = chance_of(323)
        for prime in (2, 7):
            x = sum([some_sequence(chance, prime) for k in range(8)], Sequence.zero(prime))
            for n in (2, 3, 4):
                parts = strands(x, n)
                self.assertEqual(woven(parts), x)
                self.assertLessEqual(max([part.rule().span() for part in parts]), x.rule().span())

    def test_zeros(self):
        for prime in PRIMES:
            zero = Sequence.zero(prime)
            self.assertEqual((strands(zero, 3), woven([zero, zero]), strand(zero, 4, 2)), ([zero] * 3, zero, zero))
            one = Sequence.repeated(prime, [1])
            self.assertEqual(woven([zero, one, zero]), Sequence.repeated(prime, [0, 1, 0]))

    def test_errors(self):
        x = Sequence.repeated(3, [1, 2])
        for thing in NO_COUNTS:
            for ask in (lambda: strand(x, thing, 0), lambda: strand(x, thing, None), lambda: strands(x, thing)):
                with self.subTest(thing=thing), self.assertRaises(BadCount) as caught:
                    ask()
                self.assertIs(caught.exception.count, thing)
        for n in (1, 2, 4):
            for thing in NO_PLACES + (-1, n, n + 3, -FAR, FAR):
                with self.subTest(thing=thing), self.assertRaises(BadPlace) as caught:
                    strand(x, n, thing)
                self.assertIs(caught.exception.place, thing)

    def test_nothing_to_weave(self):
        x = Sequence.repeated(3, [1, 2])
        for thing in tuple(NO_LISTS) + (
            [], (), [None], [x, None], [x, Sequence.zero(2)], (Sequence.zero(7), x), [[x]], [x, 0], [0, x], x, {0: x},
            ["0"], [True], World(3, 2),
        ):
            with self.subTest(thing=thing), self.assertRaises(BadSequences):
                woven(thing)


class Tables(unittest.TestCase):
    def test_small_ones(self):
        f = Filter(5, [(-1, 2), (0, 1), (3, 4)])
        self.assertEqual(strand_table(f, 1), Table(5, 1, [[f]]))
        self.assertEqual(strand_table(f=f, n=2).rows(), [
            [Filter(5, [(0, 1)]), Filter(5, [(-1, 2), (1, 4)])], [Filter(5, [(0, 2), (2, 4)]), Filter(5, [(0, 1)])],
        ])
        self.assertEqual(strand_table(Filter(5), 3), Table(5, 3, [[Filter(5)] * 3] * 3))
        t = strand_table(Filter.shift(2, 7), 3)
        self.assertEqual((t.width, len(t)), (3, 3))
        self.assertEqual([[told(g) for g in row] for row in t], [[{}, {2: 1}, {}], [{}, {}, {2: 1}], [{3: 1}, {}, {}]])

    def test_what_it_gives(self):
        chance = chance_of(331)
        for prime in PRIMES:
            for n in (1, 2, 3, 4):
                for k in range(3):
                    f, x = some_filter(chance, prime), some_sequence(chance, prime)
                    t = strand_table(f, n)
                    self.assertEqual((t.prime, t.width, len(t)), (prime, n, n))
                    self.assertEqual(t(strands(x, n)), strands(f(x), n))
                    self.assertEqual(woven(t(strands(x, n))), f(x))

    def test_sums_and_products(self):
        chance = chance_of(332)
        for prime in PRIMES:
            f, g = some_filter(chance, prime), some_filter(chance, prime)
            for n in (2, 3):
                self.assertEqual(strand_table(f * g, n), strand_table(f, n) * strand_table(g, n))

    def test_errors(self):
        for thing in NO_COUNTS:
            for ask in (
                lambda: strand_table(ONE, thing), lambda: strand_world(World(3, 2), thing),
                lambda: strand_watcher(World(3, 2).nothing(), thing, [0]),
                lambda: strand_watcher(World(3, 2).nothing(), thing, None),
            ):
                with self.subTest(thing=thing), self.assertRaises(BadCount) as caught:
                    ask()
                self.assertIs(caught.exception.count, thing)
        for n in (1, 2, 3):
            for thing in tuple(NO_LISTS) + (
                [n], [-1], [0, 0], (0, 0), [None], [True], [False], ["0"], [[0]], [(0,)], [0, None], [0, n], {0: 0}, 0,
                [Filter(2)], [{}], World(3, 2), "0",
            ):
                with self.subTest(thing=thing), self.assertRaises(BadPlaces):
                    strand_watcher(World(3, 2).nothing(), n, thing)


class Worlds(unittest.TestCase):
    def test_rules_in_order(self):
        world = World(3, 2, [[STEP, NONE], [Filter.shift(3, 1), ONE]])
        got = strand_world(world, 2)
        self.assertEqual((got.prime, got.width), (3, 4))
        two, shift = Filter(3, [(0, 2)]), Filter.shift(3, 1)
        self.assertEqual(got.rules().rows(), [
            [two, ONE, NONE, NONE], [shift, two, NONE, NONE], [NONE, ONE, ONE, NONE], [shift, NONE, NONE, ONE],
        ])
        self.assertEqual(strand_world(world=world, n=1).rules(), world.rules())
        self.assertEqual(strand_world(World(5, 1), 4).rules(), Table(5, 4))

    def test_cases(self):
        for chance, P, Q in some_pairs(333, 4, width=2):
            world = P.world
            for n in (1, 2, 3):
                got = strand_world(world, n)
                case = some_case(chance, P)
                parts = [part for x in case for part in strands(x, n)]
                self.assertIs(got.is_case(parts), True)
                other = some_case(chance, got.nothing(), 2)
                whole = [woven(other[n * at:n * at + n]) for at in range(world.width)]
                self.assertIs(world.is_case(whole), True)
                wrong = [some_sequence(chance, world.prime, 2) for x in parts]
                whole = [woven(wrong[n * at:n * at + n]) for at in range(world.width)]
                self.assertIs(got.is_case(wrong), world.is_case(whole))


class Watchers(unittest.TestCase):
    def test_rows_in_order(self):
        world = World(3, 1, [[STEP * STEP]])
        P = Watcher(world, [[STEP], [ONE]])
        two, shift = Filter(3, [(0, 2)]), Filter.shift(3, 1)
        for places, rows in (
            ([0, 1], [[two, ONE], [shift, two], [ONE, NONE], [NONE, ONE]]),
            ((1, 0), [[shift, two], [two, ONE], [NONE, ONE], [ONE, NONE]]), ([1], [[shift, two], [NONE, ONE]]),
            ([], []), ((), []),
        ):
            w = strand_watcher(P, 2, places)
            self.assertEqual((w.rows(), w.world), (rows, strand_world(world, 2)))
        self.assertEqual(strand_watcher(watcher=P, n=1, places=[0]).rows(), P.rows())
        places = [1, 0]
        strand_watcher(P, 2, places)
        self.assertEqual(places, [1, 0])

    def test_views(self):
        chance = chance_of(334)
        for prime in PRIMES:
            world = World(prime, 2)
            P = Watcher(world, some_rows(chance, prime, 2, 3, 4, 5))
            case = [some_sequence(chance, prime, 4) for k in range(2)]
            for n, places in ((2, [0, 1]), (2, [1]), (3, [2, 0]), (4, [3, 1, 2])):
                parts = [part for x in case for part in strands(x, n)]
                view = strand_watcher(P, n, places)(parts)
                self.assertEqual(view, [strand(x, n, r) for x in P(case) for r in places])
                wanted = [row_digits(row, case, -8 * n, 8 * n)[r::n] for row in P.rows() for r in places]
                self.assertEqual([x.digits(-8, 16) for x in view], wanted)

    def test_what_is_lacking_of_strands(self):
        count = 0
        for P, Q, counts, word, more in known_pairs(335, 8):
            for n in (2, 3):
                if n * P.world.width <= 4:
                    every = list(range(n))
                    mine, its = strand_watcher(P, n, every), strand_watcher(Q, n, every)
                    self.assertEqual(lacks(mine, its), (n * counts[0], counts[1]))
                    count += counts != (0, 0)
        self.assertGreater(count, 6)

    def test_wide_rows(self):
        chance = chance_of(336)
        for prime in (2, 7):
            world = World(prime, 2, wide_table(chance, prime, 1, 2).rows())
            P = Watcher(world, wide_table(chance, prime, 1, 2).rows())
            Q = Watcher(world, wide_table(chance, prime, 2, 2).rows())
            f, t = lacks(P, Q)
            self.assertEqual(lacks(strand_watcher(P, 2, [1, 0]), strand_watcher(Q, 2, [0, 1])), (2 * f, t))


if __name__ == "__main__":
    unittest.main()
