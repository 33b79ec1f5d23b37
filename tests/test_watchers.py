"""Points 21 to 23: what watchers see and know, and what several of them know."""

import unittest

from seenrows.errors import BadRow, NotCase, UnlikeWorlds
from seenrows.filters import Filter
from seenrows.sequences import Sequence
from seenrows.solving import solve
from seenrows.tables import Table
from seenrows.worlds import Watcher, World
from tests.plain import NO_LISTS, PRIMES, chance_of, is_least, slow_has, some_row, some_rows, some_sequence
from tests.test_combinations import some_sum, wide_table
from tests.test_tables import NO_ROWS
from tests.test_worlds import some_case

ONE, STEP = Filter(3, [(0, 1)]), Filter(3, [(0, 2), (1, 1)])
PLUS = Filter(3, [(0, 1), (1, 1)])
NONE = Filter(3)
FREE = World(3, 2)
RULED = World(3, 2, [[STEP, ONE]])


def some_watchers(seed, count, rules=2, rows=2, width=3):
    """Worlds of each prime with two watchers of each."""
    chance = chance_of(seed)
    for prime in PRIMES:
        for k in range(count):
            wide = chance.randint(1, width)
            world = World(prime, wide, some_rows(chance, prime, wide, chance.randint(0, rules), 2, 1))
            made = [Watcher(world, some_rows(chance, prime, wide, chance.randint(0, rows), 2, 1)) for n in range(2)]
            yield chance, world, made[0], made[1]


def all_rows(watcher):
    return watcher.rows() + watcher.world.rules().rows()


class Making(unittest.TestCase):
    def test_a_small_one(self):
        w = Watcher(RULED, [[ONE, STEP], (NONE, ONE)])
        self.assertIs(w.world, RULED)
        self.assertEqual((len(w), w.rows()), (2, [[ONE, STEP], [NONE, ONE]]))
        self.assertEqual(list(w), [(ONE, STEP), (NONE, ONE)])
        self.assertEqual([type(row) for row in w] + [type(row) for row in w.rows()], [tuple, tuple, list, list])
        self.assertEqual(Watcher(world=RULED, rows=((ONE, STEP), [NONE, ONE])).rows(), w.rows())

    def test_without_rows(self):
        for w in (Watcher(FREE), Watcher(FREE, ()), Watcher(FREE, []), FREE.nothing(), Watcher(world=FREE)):
            self.assertEqual((len(w), w.rows(), list(w), w.world), (0, [], [], FREE))

    def test_everything_and_nothing(self):
        for prime in PRIMES:
            for width in (1, 2, 3):
                world = World(prime, width, [[Filter(prime, [(0, 1)])] * width])
                w = world.everything()
                self.assertIs(w.world, world)
                self.assertEqual(w.rows(), [
                    [Filter(prime, [(0, 1)]) if at == column else Filter(prime) for at in range(width)]
                    for column in range(width)
                ])
                self.assertIs(world.nothing().world, world)
                self.assertEqual(world.nothing().rows(), [])

    def test_what_is_passed_is_copied_and_what_is_returned_is_new(self):
        row, rows = [ONE, STEP], [[NONE, ONE]]
        rows.append(row)
        w = Watcher(FREE, rows)
        self.assertEqual(rows, [[NONE, ONE], [ONE, STEP]])
        row[0] = NONE
        rows.append([ONE, ONE])
        got = w.rows()
        got[0][0] = STEP
        got.append(None)
        self.assertEqual(w.rows(), [[NONE, ONE], [ONE, STEP]])

    def test_no_rows(self):
        for world in (FREE, RULED):
            for thing in tuple(NO_LISTS) + (Table(3, 2), world.nothing()):
                with self.subTest(thing=thing), self.assertRaises(BadRow) as caught:
                    Watcher(world, thing)
                self.assertEqual((type(caught.exception.index), caught.exception.index), (int, 0))
            for thing in NO_ROWS:
                for rows, at in (([thing], 0), ([[ONE, ONE], thing, None], 1), (((ONE, NONE), [ONE, ONE], thing), 2)):
                    with self.subTest(thing=thing), self.assertRaises(BadRow) as caught:
                        Watcher(world=world, rows=rows)
                    self.assertEqual(caught.exception.index, at)


class Views(unittest.TestCase):
    def test_a_small_one(self):
        x = Sequence.repeated(3, [0, 1, 1, 2])
        y = -STEP(x)
        w = Watcher(RULED, [[ONE, ONE], [NONE, STEP], [STEP, ONE]])
        self.assertEqual(w([x, y]), [x + y, STEP(y), Sequence.zero(3)])
        self.assertEqual(w((x, y)), w([x, y]))
        self.assertEqual(w(case=[x, y]), w([x, y]))
        self.assertEqual((type(w((x, y))), RULED.nothing()([x, y])), (list, []))
        self.assertEqual(RULED.everything()([x, y]), [x, y])

    def test_views_are_what_the_table_gives(self):
        chance = chance_of(211)
        for prime in PRIMES:
            for k in range(6):
                rule, case = some_case(chance, prime)
                w = Watcher(World(prime, 2, [rule]), some_rows(chance, prime, 2, 4, 3, 24))
                before = list(case)
                view = w(case)
                self.assertEqual(view, Table(prime, 2, w.rows())(case))
                view.pop()
                self.assertEqual((len(w(case)), case), (4, before))

    def test_no_case(self):
        x = Sequence.repeated(3, [1, 2])
        for w in (RULED.nothing(), RULED.everything(), Watcher(RULED, [[STEP, ONE]])):
            for thing in tuple(NO_LISTS) + (
                [], (), [x], [x, x], [x, STEP(x)], [x, None], (x, -STEP(x), x), [[x, -STEP(x)]], w, RULED,
                [Sequence.zero(2), Sequence.zero(2)], [x, ONE], {0: x, 1: -STEP(x)}, x,
            ):
                with self.subTest(thing=thing), self.assertRaises(NotCase):
                    w(thing)
            self.assertEqual(len(w([x, -STEP(x)])), len(w))
        with self.assertRaises(NotCase):
            FREE.nothing()([x])


class Knowing(unittest.TestCase):
    def test_small_ones(self):
        w = Watcher(RULED, [[NONE, STEP]])
        for row in ([NONE, STEP], [STEP, ONE], [STEP, ONE + STEP], [NONE, NONE], (STEP * STEP, NONE), [2 * STEP, 2 * ONE]):
            self.assertIs(row in w, True)
        for row in ([NONE, ONE], [ONE, NONE], [STEP, NONE], (STEP, STEP), [ONE, STEP]):
            self.assertIs(row in w, False)
            self.assertIs(row not in w, True)
        self.assertEqual(w.base(), Table(3, 2, [[STEP, ONE], [NONE, STEP]]))

    def test_bases(self):
        for chance, world, w, other in some_watchers(221, 12):
            base = w.base()
            self.assertEqual(base, Table(world.prime, world.width, all_rows(w)).least())
            self.assertTrue(is_least(world.prime, base.rows()))
            self.assertEqual(world.nothing().base(), world.rules().least())
            self.assertEqual(world.everything().base(), Table(world.prime, world.width, world.everything().rows()))

    def test_what_is_known_against_elimination(self):
        for chance, world, w, other in some_watchers(222, 4, 1, 1, 2):
            for k in range(5):
                row = some_row(chance, world.prime, world.width, 2, 1)
                self.assertIs(row in w, slow_has(world.prime, all_rows(w), row, 8))
            if all_rows(w):
                row = some_sum(chance, world.prime, world.width, all_rows(w))
                self.assertIs(row in w, True)
                self.assertIs(tuple(row) in w, True)

    def test_what_is_no_row_is_known_to_nobody(self):
        for w in (FREE.nothing(), FREE.everything(), RULED.everything(), Watcher(RULED, [[ONE, STEP]])):
            for thing in NO_ROWS:
                self.assertIs(thing in w, False)
            self.assertIs([NONE, NONE] in w, True)

    def test_silence(self):
        self.assertIs(FREE.nothing().is_silent(), True)
        self.assertIs(RULED.nothing().is_silent(), True)
        self.assertIs(FREE.everything().is_silent(), False)
        self.assertIs(Watcher(RULED, [[STEP, ONE]]).is_silent(), True)
        self.assertIs(Watcher(RULED, [[STEP * STEP, STEP], [NONE, NONE], (2 * STEP, 2 * ONE)]).is_silent(), True)
        self.assertIs(Watcher(RULED, [[STEP, ONE], [ONE, NONE]]).is_silent(), False)
        self.assertIs(Watcher(FREE, [[NONE, NONE]]).is_silent(), True)
        self.assertIs(World(3, 2, [[ONE, NONE], [NONE, ONE]]).everything().is_silent(), True)

    def test_silent_rows_give_zeros(self):
        chance = chance_of(223)
        for prime in PRIMES:
            rule, case = some_case(chance, prime)
            world = World(prime, 2, [rule])
            w = Watcher(world, [some_sum(chance, prime, 2, [rule]) for k in range(3)])
            self.assertIs(w.is_silent(), True)
            self.assertEqual(w(case), [Sequence.zero(prime)] * 3)

    def test_other_rows_do_not_give_zeros_always(self):
        # The rule tells the second sequence but for what its own filter rules, and that is not silent.
        f, g = STEP, STEP * PLUS
        world = World(3, 2, [[f, g]])
        x = Sequence(g, [0, 1])
        self.assertIs(world.is_case([Sequence.zero(3), x]), True)
        self.assertIs(Watcher(world, [[NONE, STEP]]).is_silent(), False)
        self.assertTrue(any(Watcher(world, [[NONE, STEP]])([Sequence.zero(3), x])))

    def test_what_is_not_known_does_not_follow(self):
        # P sees STEP of what Q sees itself: two cases look the same to P and unlike to Q.
        P, Q = Watcher(FREE, [[STEP, NONE], [NONE, ONE]]), Watcher(FREE, [[ONE, NONE]])
        y = Sequence.repeated(3, [1, 2, 1, 0])
        one, two = [solve(STEP, y, [0]), y], [solve(STEP, y, [1]), y]
        self.assertEqual(P(one), P(two))
        self.assertNotEqual(Q(one), Q(two))
        self.assertIs([ONE, NONE] in P, False)
        self.assertIs([STEP, NONE] in Q, True)


class Several(unittest.TestCase):
    def test_together(self):
        P, Q = Watcher(RULED, [[ONE, STEP]]), Watcher(RULED, [[NONE, ONE], [STEP, NONE]])
        both = P + Q
        self.assertEqual(both.rows(), [[ONE, STEP], [NONE, ONE], [STEP, NONE]])
        self.assertEqual((Q + P).rows(), [[NONE, ONE], [STEP, NONE], [ONE, STEP]])
        self.assertIs(both.world, RULED)
        self.assertEqual(len(P + P), 2)
        self.assertEqual((P + RULED.nothing()).rows(), P.rows())
        kept = P
        kept += Q
        kept &= P
        self.assertEqual((P.rows(), Q.rows()), ([[ONE, STEP]], [[NONE, ONE], [STEP, NONE]]))

    def test_views_together(self):
        x = Sequence.repeated(3, [0, 1, 1, 2])
        P, Q = Watcher(RULED, [[ONE, STEP]]), Watcher(RULED, [[NONE, ONE], [STEP, NONE]])
        self.assertEqual((P + Q)([x, -STEP(x)]), P([x, -STEP(x)]) + Q([x, -STEP(x)]))

    def test_what_both_know_small(self):
        P, Q = Watcher(FREE, [[STEP, NONE]]), Watcher(FREE, [[PLUS, NONE], [NONE, ONE]])
        self.assertEqual((P & Q).rows(), [[(STEP * PLUS).normal(), NONE]])
        self.assertEqual((FREE.everything() & P).rows(), [[STEP, NONE]])
        self.assertEqual((FREE.nothing() & P).rows(), [])
        # What the rules tell is known to everybody.
        self.assertEqual((RULED.nothing() & RULED.nothing()).rows(), [[STEP, ONE]])
        self.assertEqual((RULED.nothing() & RULED.everything()).rows(), [[STEP, ONE]])

    def test_what_both_know(self):
        for chance, world, P, Q in some_watchers(231, 10):
            both = P & Q
            self.assertIs(both.world, world)
            self.assertTrue(is_least(world.prime, both.rows()))
            self.assertEqual(both.base().rows(), both.rows())
            self.assertEqual(both.rows(), (P.base() & Q.base()).rows())
            self.assertEqual((Q & P).rows(), both.rows())
            self.assertIs(both <= P and both <= Q, True)
            for row in both:
                self.assertIs(row in P and row in Q, True)
            for w in (P, Q):
                if all_rows(w):
                    row = some_sum(chance, world.prime, world.width, all_rows(w))
                    self.assertIs(row in both, row in P and row in Q)
            self.assertEqual((P & P).rows(), P.base().rows())

    def test_orders(self):
        for chance, world, P, Q in some_watchers(232, 10):
            self.assertIs(P <= Q, all(row in Q for row in P))
            self.assertIs(Q <= P, all(row in P for row in Q))
            self.assertIs(P < Q, P <= Q and not Q <= P)
            self.assertIs(P == Q, P <= Q and Q <= P)
            self.assertIs(P != Q, not (P <= Q and Q <= P))
            for one, two in ((P, P + Q), (P & Q, P), (world.nothing(), P), (P, world.everything()), (P, P)):
                self.assertIs(one <= two, True)
                self.assertIs(two >= one, True)
                self.assertIs(one < two, not two <= one)
                self.assertIs(two > one, not two <= one)
            self.assertIs(P < P, False)
            self.assertEqual(P + Q, Q + P)
            self.assertEqual(P & Q, Q & P)

    def test_orders_small(self):
        P, Q = Watcher(FREE, [[STEP, NONE]]), Watcher(FREE, [[ONE, NONE]])
        self.assertEqual((P <= Q, P < Q, Q <= P, Q < P, P == Q), (True, True, False, False, False))
        other = Watcher(FREE, [[NONE, ONE]])
        self.assertEqual((other <= Q, other < Q, Q <= other, Q < other), (False, False, False, False))
        same = Watcher(FREE, [[2 * STEP, NONE], [STEP * STEP, NONE]])
        self.assertEqual((same <= P, same < P, P <= same, P < same, P == same), (True, False, True, False, True))
        ruled = Watcher(RULED, [[NONE, ONE]])
        self.assertIs(ruled == Watcher(RULED, [[STEP, NONE], [STEP, 2 * ONE]]), True)
        self.assertIs(ruled == Watcher(RULED, [[STEP, NONE]]), True)
        self.assertIs(ruled == Watcher(RULED, [[ONE, NONE]]), False)

    def test_equality(self):
        for chance, world, P, Q in some_watchers(233, 6):
            same = Watcher(World(world.prime, world.width, world.rules().least().rows()), P.base().rows())
            self.assertIs(P == same, True)
            self.assertIs(P != same, False)
            self.assertEqual((P + same).world, world)
            self.assertIs((same + P).world, same.world)
            self.assertIs((same & P).world, same.world)
        self.assertEqual(FREE.nothing(), Watcher(World(3, 2, [[NONE, NONE]]), [[NONE, NONE]]))
        for other in (World(3, 1), World(2, 2), RULED, World(3, 2, [[ONE, NONE]])):
            self.assertIs(FREE.nothing() == other.nothing(), False)
            self.assertIs(FREE.nothing() != other.nothing(), True)
            self.assertIs(other.everything() == FREE.everything(), False)

    def test_a_watcher_equals_nothing_else(self):
        for w in (FREE.nothing(), RULED.everything()):
            for thing in (None, True, 0, "", [], {}, w.rows(), tuple(w), w.base(), w.world, [w], ONE, Sequence.zero(3)):
                self.assertIs(w == thing, False)
                self.assertIs(thing == w, False)
                self.assertIs(w != thing, True)

    def test_unlike_worlds(self):
        worlds = [FREE, RULED, World(3, 3), World(2, 2), World(3, 1), World(3, 2, [[ONE, NONE], [NONE, STEP]])]
        for one in worlds:
            for two in worlds:
                if one == two:
                    continue
                for P in (one.nothing(), one.everything()):
                    for Q in (two.nothing(), two.everything()):
                        for call in (
                            lambda: P + Q, lambda: P & Q, lambda: P <= Q, lambda: P < Q, lambda: P >= Q, lambda: P > Q,
                        ):
                            with self.assertRaises(UnlikeWorlds):
                                call()

    def test_as_large_as_callers_pass_them(self):
        chance = chance_of(234)
        for prime, rules, rows in ((2, 5, 4), (7, 1, 1), (5, 0, 2), (3, 2, 1)):
            world = World(prime, 3, wide_table(chance, prime, rules, 3).rows())
            P = Watcher(world, wide_table(chance, prime, rows, 3).rows())
            Q = Watcher(world, wide_table(chance, prime, rows, 3).rows())
            both = P & Q
            self.assertIs(both <= P and both <= Q, True)
            self.assertIs(P <= P + Q and Q + P == P + Q, True)
            self.assertTrue(is_least(prime, both.rows()))
            self.assertIs(world.nothing() <= both, True)
            case = world.zeros()
            self.assertEqual(P(case), [Sequence.zero(prime)] * rows)

    def test_views_of_long_sequences(self):
        chance = chance_of(235)
        world = World(5, 3)
        case = [some_sequence(chance, 5) for column in range(3)]
        P = Watcher(world, wide_table(chance, 5, 4, 3).rows())
        for y, row in zip(P(case), P):
            for at in (10 ** 31, -(10 ** 31)):
                plain = sum(c * x[at + o] for f, x in zip(row, case) for o, c in f.terms())
                self.assertEqual(y[at], plain % 5)


if __name__ == "__main__":
    unittest.main()
