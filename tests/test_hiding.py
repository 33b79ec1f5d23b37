"""Point 31: how much a watcher learns of what another one sees."""

import unittest

from seenrows.errors import UnlikeWorlds
from seenrows.filters import Filter
from seenrows.hiding import leak
from seenrows.sequences import Sequence
from seenrows.views import case_of
from seenrows.worlds import Watcher, World
from tests.pairs import all_pairs, known_pairs, some_case, special_pairs
from tests.plain import chance_of
from tests.test_telling import FREE, NONE, ONE, OTHERS, PLUS, RULED, SAME, STEP


class Leaks(unittest.TestCase):
    def test_small_ones(self):
        first, second, both = [ONE, NONE], [NONE, ONE], [ONE, ONE]
        for mine, its, word in (
            ([first], [], "known"), ([], [], "known"), ([first], [[NONE, NONE]], "known"),
            ([first], [first], "all"), ([first, both], [second], "all"), ([first], [first, [NONE, NONE]], "all"),
            ([first], [[PLUS, NONE]], "all"), ([first], [second], "nothing"), ([], [first], "nothing"),
            ([both], [first, [NONE, NONE]], "nothing"), ([[NONE, NONE]], [first], "nothing"),
            ([[PLUS, NONE]], [first], "some"), ([[PLUS, NONE]], [[STEP, NONE]], "some"),
            ([first], [first, second], "some"), ([first], [second, both], "some"),
        ):
            with self.subTest(mine=mine, its=its):
                self.assertEqual(leak(Watcher(FREE, mine), Watcher(FREE, its)), word)
                self.assertEqual(leak(watcher=Watcher(FREE, mine), other=Watcher(FREE, its)), word)

    def test_rules_count(self):
        first, second = [ONE, NONE], [NONE, ONE]
        for mine, its, word in (
            ([first], [second], "all"), ([second], [first], "some"), ([], [[STEP, ONE]], "known"),
            ([first], [[STEP * PLUS, PLUS]], "known"), ([], [first], "nothing"), ([[STEP, ONE]], [first], "nothing"),
        ):
            with self.subTest(mine=mine, its=its):
                self.assertEqual(leak(Watcher(RULED, mine), Watcher(RULED, its)), word)
        # The rule lets both parts of the first sequence be chosen apart.
        world = World(3, 1, [[STEP * PLUS]])
        self.assertEqual(leak(Watcher(world, [[STEP]]), Watcher(world, [[PLUS]])), "nothing")
        self.assertEqual(leak(Watcher(world, [[STEP]]), world.everything()), "some")
        self.assertEqual(leak(world.everything(), Watcher(world, [[PLUS]])), "all")

    def test_known_words(self):
        seen = {}
        for P, Q, counts, word, more in known_pairs(311, 30):
            self.assertEqual(leak(P, Q), word)
            again = leak(P, Q)
            self.assertEqual((type(again), again), (str, word))
            seen[word] = seen.get(word, 0) + 1
        self.assertEqual(sorted(seen), ["all", "known", "nothing", "some"])
        self.assertGreater(min(seen.values()), 8)

    def test_the_first_word_that_fits(self):
        for chance, P, Q in all_pairs(312, 10):
            word = leak(P, Q)
            if Q.is_silent():
                self.assertEqual(word, "known")
            elif Q <= P:
                self.assertEqual(word, "all")
            else:
                self.assertEqual(word, "nothing" if (P & Q).is_silent() else "some")

    def test_views_that_go_together(self):
        count = 0
        chance = chance_of(312)
        for P, Q, counts, word, more in known_pairs(313, 40):
            if word in ("nothing", "known"):
                mine, its = P(some_case(chance, P)), Q(some_case(chance, Q))
                case = case_of(P + Q, mine + its)
                self.assertEqual((P(case), Q(case)), (mine, its))
                count += any(its) and any(mine)
        self.assertGreater(count, 4)

    def test_views_that_do_not_go_together(self):
        chance = chance_of(314)
        seen = {"all": 0, "some": 0}
        for P, Q, counts, word, more in known_pairs(315, 30):
            if word in seen:
                # What both know is not always zero; where it is not, P's view does not go together with zeros of Q.
                common, zeros = P & Q, [Sequence.zero(P.world.prime) for row in Q.rows()]
                case = some_case(chance, P)
                while not any(common(case)):
                    case = some_case(chance, P)
                self.assertIsNone(case_of(P + Q, P(case) + zeros))
                seen[word] += 1
        self.assertGreater(min(seen.values()), 5)

    def test_special_ones(self):
        words = {}
        for P, Q in special_pairs():
            words[leak(P, Q)] = words.get(leak(P, Q), 0) + 1
            self.assertEqual(leak(P, P), "known" if P.is_silent() else "all")
            self.assertEqual(leak(P, P.world.nothing()), "known")
            self.assertEqual(leak(P.world.everything(), P), "known" if P.is_silent() else "all")
            self.assertEqual(leak(P.world.nothing(), P), "known" if P.is_silent() else "nothing")
        self.assertEqual(len(words), 4)

    def test_worlds(self):
        P = RULED.everything()
        for other in OTHERS:
            for pair in ((P, other.nothing()), (other.everything(), P), (RULED.nothing(), other.everything())):
                with self.assertRaises(UnlikeWorlds):
                    leak(*pair)
        self.assertEqual(leak(Watcher(SAME, [[ONE, NONE]]), Watcher(RULED, [[NONE, ONE]])), "all")
        self.assertEqual(leak(Watcher(RULED, [[NONE, ONE]]), Watcher(SAME, [[ONE, NONE]])), "some")
        self.assertEqual(leak(Watcher(RULED, [[ONE, NONE]]), Watcher(SAME, [[STEP, ONE]])), "known")

    def test_what_is_asked_is_not_changed(self):
        P, Q = Watcher(RULED, [[NONE, ONE]]), Watcher(RULED, [[Filter.shift(3, 2), NONE]])
        self.assertEqual([leak(P, Q) for k in range(3)], ["some"] * 3)
        self.assertEqual((P.rows(), Q.rows()), ([[NONE, ONE]], [[Filter.shift(3, 2), NONE]]))


if __name__ == "__main__":
    unittest.main()
