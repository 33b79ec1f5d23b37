"""Points 24 and 25: formulas and twins."""

import unittest

from seenrows.errors import UnlikeWorlds
from seenrows.filters import Filter
from seenrows.sequences import Sequence
from seenrows.tables import Table
from seenrows.telling import formula, is_formula, twins
from seenrows.worlds import Watcher, World
from tests.pairs import all_pairs, digit_at, known_pairs, row_digits, some_case, some_pairs, special_pairs, sum_of
from tests.plain import NO_LISTS, chance_of, some_filter
from tests.test_combinations import wide_table

ONE, STEP = Filter(3, [(0, 1)]), Filter(3, [(0, 2), (1, 1)])
PLUS = Filter(3, [(0, 1), (1, 1)])
NONE = Filter(3)
FREE = World(3, 2)
RULED = World(3, 2, [[STEP, ONE]])
# The rules of SAME are others, but their combinations are those of RULED.
SAME = World(3, 2, [[2 * STEP, 2 * ONE], [STEP * PLUS, PLUS], [NONE, NONE]])
OTHERS = (World(3, 3), World(2, 2), World(3, 2, [[STEP * PLUS, PLUS]]), World(3, 1))


class Formulas(unittest.TestCase):
    def test_a_small_one(self):
        P = Watcher(FREE, [[ONE, STEP], [NONE, PLUS]])
        Q = Watcher(FREE, [[PLUS, NONE], [NONE, NONE]])
        told = formula(P, Q)
        self.assertEqual((type(told), [type(row) for row in told]), (list, [list, list]))
        self.assertEqual(told, [[PLUS, -STEP], [NONE, NONE]])
        self.assertEqual(formula(watcher=P, other=Q), told)
        self.assertIs(is_formula(P, Q, told), True)
        self.assertIs(is_formula(watcher=P, other=Q, thing=[(PLUS, -STEP), (NONE, NONE)]), True)
        self.assertIsNone(formula(Q, P))
        self.assertIsNone(formula(P, FREE.everything()))

    def test_rules_help(self):
        P, Q = Watcher(RULED, [[ONE, NONE]]), Watcher(RULED, [[NONE, ONE], [ONE, NONE]])
        self.assertEqual(formula(P, Q), [[-STEP], [ONE]])
        self.assertIs(is_formula(P, Q, ([-STEP], (ONE,))), True)
        self.assertIs(is_formula(P, Q, [[STEP], [ONE]]), False)
        self.assertIsNone(formula(Watcher(FREE, P.rows()), Watcher(FREE, Q.rows())))
        self.assertIsNone(formula(Watcher(RULED, [[NONE, ONE]]), P))

    def test_what_follows_in_every_case(self):
        count = 0
        for chance, P, Q in all_pairs(241, 12):
            told = formula(P, Q)
            if told is None:
                self.assertFalse(Q <= P)
                continue
            self.assertTrue(Q <= P)
            self.assertEqual((len(told), [len(row) for row in told]), (len(Q), [len(P)] * len(Q)))
            self.assertIs(is_formula(P, Q, told), True)
            for k in range(2):
                case = some_case(chance, P)
                for factors, row in zip(told, Q.rows()):
                    made = sum_of(P.world.prime, P.world.width, factors, P.rows())
                    self.assertEqual(row_digits(made, case, -9, 15), row_digits(row, case, -9, 15))
                view = P(case)
                worked = [sum([f(x) for f, x in zip(row, view)], Sequence.zero(P.world.prime)) for row in told]
                self.assertEqual(worked, Q(case))
                count += bool(worked and any(worked))
        self.assertGreater(count, 12)

    def test_what_is_a_formula(self):
        for chance, P, Q in all_pairs(242, 8):
            told = formula(P, Q)
            if not told or not len(P):
                continue
            prime, rules = P.world.prime, P.world.rules()
            for k in range(3):
                other = [list(row) for row in told]
                at, column = chance.randrange(len(Q)), chance.randrange(len(P))
                other[at][column] = other[at][column] + some_filter(chance, prime, 2, 2)
                made = sum_of(prime, P.world.width, other[at], P.rows())
                left = [f - g for f, g in zip(Q.rows()[at], made)]
                self.assertIs(is_formula(P, Q, other), left in rules)
                self.assertIs(is_formula(P, Q, tuple(tuple(row) for row in other)), left in rules)

    def test_other_formulas_that_differ_by_a_check(self):
        P = Watcher(RULED, [[ONE, NONE], [NONE, ONE], [STEP, ONE], [PLUS, PLUS]])
        Q = Watcher(RULED, [[PLUS, NONE]])
        told = formula(P, Q)
        for check in ([STEP, ONE, NONE, NONE], [NONE, NONE, PLUS, NONE], [PLUS, PLUS, NONE, -ONE]):
            other = [[f + g for f, g in zip(told[0], check)]]
            self.assertNotEqual(other, told)
            self.assertIs(is_formula(P, Q, other), True)
        self.assertIs(is_formula(P, Q, [[f + g for f, g in zip(told[0], [ONE, NONE, NONE, NONE])]]), False)

    def test_no_formulas(self):
        P, Q = Watcher(RULED, [[ONE, NONE], [ONE, ONE]]), Watcher(RULED, [[NONE, ONE]])
        good = formula(P, Q)
        self.assertIs(is_formula(P, Q, good), True)
        for thing in tuple(NO_LISTS) + (
            [], (), [[]], good + good, good[0], [good], [good[0] + [NONE]], [good[0][:1]], [None], [[None, None]],
            [[-STEP, 0]], [[Filter(2), Filter(2)]], [{0: -STEP, 1: NONE}], [[True, NONE]], Table(3, 2, good), P, Q,
            [Table(3, 2)], {0: good[0]}, [Sequence.zero(3)], [[Sequence.zero(3), NONE]], ["1@0"], [["1@0", "0"]],
        ):
            with self.subTest(thing=thing):
                self.assertIs(is_formula(P, Q, thing), False)

    def test_without_rows(self):
        for world in (FREE, RULED):
            N, P = world.nothing(), world.everything()
            silent = Watcher(world, world.rules().rows() + [[NONE, NONE]])
            self.assertEqual((formula(P, N), formula(N, N)), ([], []))
            self.assertEqual(formula(N, silent), [[] for row in silent])
            self.assertIsNone(formula(N, P))
            self.assertIs(is_formula(P, N, []), True)
            self.assertIs(is_formula(N, N, ()), True)
            self.assertIs(is_formula(N, silent, [() for row in silent]), True)
            self.assertIs(is_formula(N, silent, []), False)
            self.assertIs(is_formula(N, P, [[], []]), False)
            self.assertIs(is_formula(P, N, [[]]), False)

    def test_wide_rows(self):
        chance = chance_of(243)
        for prime in (2, 7):
            world = World(prime, 3, wide_table(chance, prime, 1, 3).rows())
            P = Watcher(world, wide_table(chance, prime, 4, 3).rows())
            Q = Watcher(world, wide_table(chance, prime, 4, 3).rows())
            told = formula(P, Q)
            self.assertIs(is_formula(P, Q, told), True)
            told[3][2] = told[3][2] + Filter(prime, [(5, 1)])
            self.assertIs(is_formula(P, Q, told), False)


class Twins(unittest.TestCase):
    def test_small_ones(self):
        P, Q = Watcher(FREE, [[ONE, STEP]]), Watcher(FREE, [[NONE, ONE]])
        pair = twins(P, Q)
        self.assertEqual((type(pair), [type(case) for case in pair], len(pair)), (tuple, [list, list], 2))
        self.assertEqual(P(pair[0]), P(pair[1]))
        self.assertNotEqual(Q(pair[0]), Q(pair[1]))
        self.assertEqual(twins(watcher=P, other=Q), pair)
        self.assertIsNone(twins(FREE.everything(), Q))
        self.assertIsNone(twins(FREE.nothing(), FREE.nothing()))

    def test_just_one_is_none(self):
        seen = {True: 0, False: 0}
        for chance, P, Q in all_pairs(251, 12):
            pair, told = twins(P, Q), formula(P, Q)
            self.assertIs(pair is None, told is not None)
            self.assertIs(pair is None, Q <= P)
            seen[pair is None] += 1
            if pair is not None:
                for case in pair:
                    self.assertIs(P.world.is_case(case), True)
                self.assertEqual(P(pair[0]), P(pair[1]))
                self.assertNotEqual(Q(pair[0]), Q(pair[1]))
        self.assertGreater(min(seen.values()), 15)

    def test_their_digits(self):
        for P, Q, counts, word, more in known_pairs(252, 6):
            pair = twins(P, Q)
            self.assertIs(pair is None, counts == (0, 0))
            if pair is not None:
                for row in P.rows() + P.world.rules().rows():
                    self.assertEqual(row_digits(row, pair[0], -20, 40), row_digits(row, pair[1], -20, 40))
                unlike = [
                    place for place in range(-20, 40) for row in Q.rows()
                    if digit_at(row, pair[0], place) != digit_at(row, pair[1], place)
                ]
                self.assertTrue(unlike)

    def test_asked_again(self):
        for chance, P, Q in some_pairs(253, 4):
            again = Watcher(P.world, tuple(tuple(row) for row in P.rows()))
            self.assertEqual(twins(P, Q), twins(P, Q))
            self.assertEqual(twins(again, Q), twins(P, Q))
            self.assertEqual(formula(again, Q), formula(P, Q))

    def test_what_is_returned_is_new(self):
        P, Q = Watcher(FREE, [[ONE, STEP]]), Watcher(FREE, [[ONE, STEP], [NONE, NONE]])
        told = formula(P, Q)
        told[0][0] = NONE
        told.pop()
        self.assertEqual(formula(P, Q), [[ONE], [NONE]])
        pair = twins(FREE.nothing(), Q)
        pair[0].pop()
        pair[1][0] = None
        self.assertIs(FREE.is_case(twins(FREE.nothing(), Q)[1]), True)
        self.assertEqual(len(twins(FREE.nothing(), Q)[0]), 2)


class Worlds(unittest.TestCase):
    def test_unlike_worlds(self):
        P = RULED.everything()
        for other in OTHERS:
            for ask in (formula, twins):
                for pair in ((P, other.nothing()), (other.everything(), P)):
                    with self.subTest(ask=ask), self.assertRaises(UnlikeWorlds):
                        ask(*pair)
            for thing in (None, [], [[ONE, NONE]]):
                with self.assertRaises(UnlikeWorlds):
                    is_formula(P, other.nothing(), thing)
                with self.assertRaises(UnlikeWorlds):
                    is_formula(other.nothing(), P, thing)

    def test_equal_worlds_told_otherwise(self):
        P, Q = Watcher(RULED, [[ONE, NONE]]), Watcher(SAME, [[NONE, PLUS]])
        for one, other in ((P, Q), (Watcher(SAME, P.rows()), Watcher(RULED, Q.rows()))):
            told = formula(one, other)
            self.assertEqual(told, [[-(STEP * PLUS)]])
            self.assertIs(is_formula(one, other, told), True)
            self.assertIsNone(twins(one, other))
            pair = twins(other, one)
            self.assertEqual(Q([*pair[0]]), Q([*pair[1]]))
            self.assertNotEqual(P(pair[0]), P(pair[1]))

    def test_a_watcher_beside_itself(self):
        for P, Q in special_pairs():
            self.assertIsNone(twins(P, P))
            self.assertIs(is_formula(P, P, formula(P, P)), True)


if __name__ == "__main__":
    unittest.main()
