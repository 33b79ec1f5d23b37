"""Points 34 and 35: circles of watchers, and which sets of them know or learn nothing."""

import itertools
import unittest

from seenrows.circles import Circle
from seenrows.errors import BadName, NoName, UnlikeWorlds
from seenrows.filters import Filter
from seenrows.hiding import leak
from seenrows.worlds import Watcher, World
from tests.pairs import rows_of
from tests.plain import NO_LISTS, PRIMES, chance_of, some_rows
from tests.test_combinations import wide_table
from tests.test_telling import OTHERS, RULED, SAME

ONE, STEP, NONE = Filter(3, [(0, 1)]), Filter(3, [(0, 2), (1, 1)]), Filter(3)
FREE = World(3, 3)
A, B = Watcher(FREE, [[ONE, NONE, NONE]]), Watcher(FREE, [[NONE, ONE, NONE]])
C, D = Watcher(FREE, [[ONE, ONE, NONE]]), Watcher(FREE, [[NONE, NONE, ONE], [NONE, NONE, STEP]])
FOUR = Circle(FREE, [("cc", C), ["a", A], ("dora", D), ("b", B)])
NO_NAMES = (
    None, True, False, 0, 1, "", "A", "aB", "a b", " a", "a ", "a1", "1", "a_b", "a-b", "abcdefghi", "a\n", "\n", "~",
    [], ["a"], (), ("a", "b"), {}, {"a": 1}, Filter(2), A, FREE, FOUR,
)


def plain_sets(names):
    return [list(one) for size in range(len(names) + 1) for one in itertools.combinations(sorted(names), size)]


class Making(unittest.TestCase):
    def test_names_and_watchers(self):
        self.assertIs(FOUR.world, FREE)
        self.assertEqual((FOUR.names(), list(FOUR), len(FOUR)), (["a", "b", "cc", "dora"],) * 2 + (4,))
        self.assertEqual([type(FOUR.names()), type(len(FOUR))], [list, int])
        for name, watcher in (("a", A), ("b", B), ("cc", C), ("dora", D)):
            self.assertIs(name in FOUR, True)
            self.assertIs(FOUR[name], watcher)
        for name in ("c", "d", "aa", "abcdefgh") + NO_NAMES:
            self.assertIs(name in FOUR, False)
            self.assertIs(name not in FOUR, True)
        self.assertEqual([(name, FOUR[name]) for name in FOUR], [("a", A), ("b", B), ("cc", C), ("dora", D)])

    def test_without_watchers(self):
        for circle in (Circle(FREE), Circle(FREE, ()), Circle(FREE, []), Circle(world=FREE, watchers=[])):
            self.assertEqual((circle.names(), list(circle), len(circle)), ([], [], 0))
            self.assertEqual((circle.group(), circle.group().rows()), (FREE.nothing(), []))
            self.assertIs("a" in circle, False)
            self.assertEqual((circle.needless(), circle.fewest()), ([], []))
            self.assertEqual((circle.knowing(A), circle.knowing(FREE.nothing())), ([], [[]]))
            self.assertEqual((circle.blind(A), circle.blind(FREE.nothing())), ([[]], [[]]))

    def test_ascending_order(self):
        names = ["b", "ab", "a", "abc", "z", "aa", "ba", "abcdefgh", "zz", "y"]
        circle = Circle(FREE, [(name, A) for name in names])
        self.assertEqual((circle.names(), list(circle)), (sorted(names), sorted(names)))

    def test_what_is_passed_is_copied_and_what_is_returned_is_new(self):
        pairs = [["b", B], ("a", A)]
        circle = Circle(FREE, pairs)
        self.assertEqual(pairs, [["b", B], ("a", A)])
        pairs[0][1] = A
        pairs.append(("c", C))
        got = circle.names()
        got.append("d")
        self.assertEqual((circle.names(), circle["b"]), (["a", "b"], B))

    def test_no_names(self):
        for thing in NO_NAMES:
            for pairs in ([(thing, A)], [("a", A), (thing, B), ("A", C)], ((thing, RULED.nothing()), ("a", A), ("a", A))):
                with self.subTest(thing=thing), self.assertRaises(BadName) as caught:
                    Circle(FREE, pairs)
                self.assertIs(caught.exception.name, thing)

    def test_a_name_that_comes_again(self):
        for pairs, name in (
            ([("a", A), ("a", A)], "a"), ([("a", A), ("b", B), ["b", A], ("a", A)], "b"),
            ([("a", RULED.nothing()), ("b", B), ("a", B), ("B", B)], "a"),
        ):
            with self.assertRaises(BadName) as caught:
                Circle(FREE, pairs)
            self.assertEqual(caught.exception.name, name)

    def test_worlds(self):
        for other in (RULED,) + OTHERS[1:]:
            with self.assertRaises(UnlikeWorlds):
                Circle(FREE, [("a", A), ("b", other.nothing()), ("c", C)])
        circle = Circle(RULED, [("a", Watcher(SAME, [[ONE, NONE]])), ("b", RULED.nothing())])
        self.assertEqual((circle.world, circle["a"].rows()), (RULED, [[ONE, NONE]]))
        self.assertEqual(circle.group("b", "a").world, RULED)

    def test_no_watcher(self):
        for thing in NO_NAMES + ("c", "d", "aa", "abcdefgh"):
            with self.subTest(thing=thing), self.assertRaises(NoName) as caught:
                FOUR[thing]
            self.assertIs(caught.exception.name, thing)

    def test_equal_circles(self):
        again = Circle(World(3, 3, [[NONE] * 3]), (("b", B), ("dora", D), ("a", A), ("cc", C)))
        self.assertIs(FOUR == again, True)
        self.assertIs(FOUR != again, False)
        for other in (Circle(FREE), Circle(FREE, [("a", A), ("b", B), ("cc", C), ("dora", C)]), None, 1, "a", FREE):
            self.assertIs(FOUR == other, False)


class Groups(unittest.TestCase):
    def test_rows_in_the_order_passed(self):
        self.assertEqual(FOUR.group("b", "a").rows(), B.rows() + A.rows())
        self.assertEqual(FOUR.group("a", "b", "a").rows(), A.rows() + B.rows() + A.rows())
        self.assertEqual(FOUR.group("dora").rows(), D.rows())
        self.assertEqual((FOUR.group().rows(), FOUR.group().world), ([], FREE))
        self.assertIs(type(FOUR.group("a")), Watcher)

    def test_no_name(self):
        for thing in NO_NAMES + ("c", "aa"):
            for names in ((thing,), ("a", thing, "x"), ("a", "b", thing, None)):
                with self.subTest(thing=thing), self.assertRaises(NoName) as caught:
                    FOUR.group(*names)
                self.assertIs(caught.exception.name, thing)


class Sets(unittest.TestCase):
    def test_known_answers(self):
        every = FREE.everything()
        self.assertEqual(FOUR.knowing(every), [["a", "b", "dora"], ["a", "cc", "dora"], ["b", "cc", "dora"]])
        self.assertEqual(FOUR.knowing(A), [["a"], ["b", "cc"]])
        self.assertEqual(FOUR.knowing(other=A + B), [["a", "b"], ["a", "cc"], ["b", "cc"]])
        self.assertEqual(FOUR.knowing(FREE.nothing()), [[]])
        self.assertEqual(FOUR.knowing(Watcher(FREE, [[STEP, STEP, STEP]])), [["cc", "dora"], ["a", "b", "dora"]])
        self.assertEqual(FOUR.blind(A), [["b", "dora"], ["cc", "dora"]])
        self.assertEqual(FOUR.blind(other=every), [[]])
        self.assertEqual(FOUR.blind(FREE.nothing()), [["a", "b", "cc", "dora"]])
        self.assertEqual(FOUR.blind(D), [["a", "b", "cc"]])
        slanted = Watcher(FREE, [[ONE, NONE, ONE]])
        self.assertEqual(FOUR.blind(slanted), [["b", "dora"], ["cc", "dora"], ["a", "b", "cc"]])
        self.assertEqual(FOUR.knowing(slanted), [["a", "dora"], ["b", "cc", "dora"]])
        self.assertEqual(FOUR.needless(), ["a", "b", "cc"])
        self.assertEqual(FOUR.fewest(), ["a", "b", "dora"])
        self.assertEqual([type(one) for one in FOUR.knowing(every)], [list] * 3)

    def test_needless_ones(self):
        both = Circle(FREE, [("a", A), ("b", A)])
        self.assertEqual((both.needless(), both.fewest()), (["a", "b"], ["a"]))
        circle = Circle(FREE, [("z", FREE.everything()), ("a", A), ("n", FREE.nothing())])
        self.assertEqual((circle.needless(), circle.fewest()), (["a", "n"], ["z"]))
        idle = Circle(FREE, [("a", FREE.nothing()), ("b", FREE.nothing())])
        self.assertEqual((idle.needless(), idle.fewest(), idle.blind(A)), (["a", "b"], [], [["a", "b"]]))
        alone = Circle(FREE, [("a", A)])
        self.assertEqual((alone.needless(), alone.fewest()), ([], ["a"]))

    def some_circles(self, seed, count):
        chance = chance_of(seed)
        for prime in PRIMES:
            for k in range(count):
                width = chance.randint(1, 3)
                pool = some_rows(chance, prime, width, 3, 2, 1)
                world = World(prime, width, rows_of(chance, prime, width, pool[:1], 1))
                names = chance.sample(["a", "b", "ab", "ba", "zzz", "abc"], chance.randint(0, 4))
                made = [Watcher(world, rows_of(chance, prime, width, pool, 2)) for name in names]
                yield Circle(world, list(zip(names, made))), Watcher(world, rows_of(chance, prime, width, pool, 2))

    def check(self, circle, Q):
        """Look at each word of the document in turn; return how many sets there are."""
        names = circle.names()
        sets = plain_sets(names)
        knows = [one for one in sets if Q <= circle.group(*one)]
        wanted = [one for one in knows if not [less for less in knows if set(less) < set(one)]]
        self.assertEqual(circle.knowing(Q), wanted)
        blind = [one for one in sets if leak(circle.group(*one), Q) in ("nothing", "known")]
        others = [one for one in blind if not [more for more in blind if set(more) > set(one)]]
        self.assertEqual(circle.blind(Q), others)
        every = circle.group(*names)
        less = [[other for other in names if other != name] for name in names]
        needless = [name for name, left in zip(names, less) if circle.group(*left) == every]
        self.assertEqual(circle.needless(), needless)
        self.assertEqual(circle.fewest(), [one for one in sets if circle.group(*one) == every][0])
        return len(wanted), len(others)

    def test_the_words_of_the_document(self):
        sizes = [self.check(circle, Q) for circle, Q in self.some_circles(351, 12)]
        self.assertGreater(max([one for one, other in sizes]), 1)
        self.assertGreater(max([other for one, other in sizes]), 1)
        self.assertEqual(min([one for one, other in sizes]), 0)

    def test_wide_rows(self):
        chance = chance_of(352)
        for prime in (2, 7):
            world = World(prime, 3)
            made = [Watcher(world, wide_table(chance, prime, 1, 3).rows()) for k in range(4)]
            self.assertGreater(self.check(Circle(world, list(zip("dacb", made))), made[1])[0], 0)

    def test_unlike_worlds(self):
        for circle in (FOUR, Circle(FREE)):
            for other in (RULED,) + OTHERS[1:]:
                for ask in (circle.knowing, circle.blind):
                    with self.assertRaises(UnlikeWorlds):
                        ask(other.nothing())
        circle = Circle(SAME, [("a", Watcher(RULED, [[ONE, NONE]]))])
        self.assertEqual(circle.knowing(RULED.everything()), [["a"]])
        self.assertEqual(circle.blind(RULED.everything()), [[]])


if __name__ == "__main__":
    unittest.main()
