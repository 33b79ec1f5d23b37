"""Points 36 to 38: houses, their deeds and wishes, and what is only tried."""

import unittest

from seenrows.circles import Circle
from seenrows.errors import BadName, BadWord, NoName, NothingToUndo, SeenError, UnlikeWorlds
from seenrows.filters import Filter
from seenrows.hiding import leak
from seenrows.houses import House
from seenrows.worlds import Watcher, World
from tests.plain import chance_of
from tests.test_circles import A, B, C, D, FREE, NONE, NO_NAMES, ONE, STEP
from tests.test_telling import OTHERS, RULED, SAME

EVERY = FREE.everything()
POOL = (A, B, C, D, EVERY, FREE.nothing(), Watcher(FREE, [[STEP, NONE, NONE]]), Watcher(FREE, [[ONE, ONE, ONE]]))
STRANGERS = (RULED,) + OTHERS[1:]
NO_WORDS = (None, True, False, 0, "", "Knows", "know", "knows ", "blinds", [], ["knows"], ("blind",), {}, A, FREE, ONE)


def state(house):
    """All that can be asked of a house."""
    watchers = [(name, house[name].rows()) for name in house]
    return watchers, house.deeds(), [(wish, house.met(wish)) for wish in house.wishes()], house.names(), len(house)


def past(house):
    """The states that undo brings about, back to the beginning; the house is as it was behind it."""
    def work(same):
        states = []
        while same.deeds():
            news = same.undo()
            states.append((state(same), news))
        return states
    return house.tried(work)


def told(house):
    return state(house), past(house)


def some_house():
    house = House(FREE)
    house.wish("all", ["a", "b"], A + B, "knows")
    house.wish("none", ["b", "x"], A, "blind")
    house.put("a", A)
    house.put("b", B)
    house.hand("a", "b")
    return house


class Deeds(unittest.TestCase):
    def test_the_beginning(self):
        for house in (House(FREE), House(world=FREE)):
            self.assertIsInstance(house, Circle)
            self.assertIs(house.world, FREE)
            self.assertEqual((house.names(), list(house), len(house)), ([], [], 0))
            self.assertEqual((house.deeds(), house.wishes(), house.group().rows()), (0, [], []))
            with self.assertRaises(NothingToUndo):
                house.undo()

    def test_put(self):
        house = House(FREE)
        self.assertEqual(house.put("b", B), [])
        self.assertEqual(house.put(name="a", watcher=A), [])
        self.assertEqual((house.names(), house["a"], house["b"], house.deeds()), (["a", "b"], A, B, 2))
        house.put("b", C)
        self.assertIs(house["b"], C)
        self.assertEqual((house.names(), house.deeds()), (["a", "b"], 3))
        house["c"] = D
        self.assertIs(house["c"], D)
        self.assertEqual((house.names(), house.deeds(), "c" in house), (["a", "b", "c"], 4, True))
        self.assertEqual(house.group("c", "a").rows(), D.rows() + A.rows())

    def test_leave(self):
        house = House(FREE)
        house.put("a", A)
        house.put("b", B)
        self.assertEqual(house.leave(name="a"), [])
        self.assertEqual((house.names(), "a" in house, house.deeds()), (["b"], False, 3))
        with self.assertRaises(NoName):
            house["a"]
        house.leave("b")
        self.assertEqual((house.names(), len(house), house.deeds()), ([], 0, 4))

    def test_hand(self):
        house = House(FREE)
        for name, watcher in (("a", A), ("b", B), ("d", D)):
            house[name] = watcher
        self.assertEqual(house.hand("a", "b"), [])
        self.assertEqual((house["b"].rows(), house["a"].rows()), (B.rows() + A.rows(), A.rows()))
        house.hand(giver="b", taker="d")
        self.assertEqual(house["d"].rows(), D.rows() + B.rows() + A.rows())
        house.hand("a", "a")
        self.assertEqual((house["a"].rows(), house.deeds()), (A.rows() + A.rows(), 6))
        self.assertEqual(A.rows(), [[ONE, NONE, NONE]])

    def test_undo_back_to_the_beginning(self):
        house = House(FREE)
        states = [state(house)]
        for deed in (
            lambda: house.put("a", A), lambda: house.put("b", B), lambda: house.hand("a", "b"),
            lambda: house.put("a", C), lambda: house.put("a", C), lambda: house.leave("b"), lambda: house.hand("a", "a"),
            lambda: house.leave("a"), lambda: house.put("z", D),
        ):
            deed()
            states.append(state(house))
        while len(states) > 1:
            self.assertEqual(state(house), states.pop())
            self.assertEqual(house.undo(), [])
        self.assertEqual(state(house), states[0])
        with self.assertRaises(NothingToUndo):
            house.undo()
        self.assertEqual(state(house), states[0])

    def test_deeds_behind_an_undo(self):
        house = House(FREE)
        house.put("a", A)
        house.put("b", B)
        house.undo()
        house.put("c", C)
        self.assertEqual((house.names(), house.deeds()), (["a", "c"], 2))
        house.undo()
        house.undo()
        self.assertEqual((house.names(), house.deeds()), ([], 0))

    def test_loops_go_on_while_watchers_leave(self):
        house = some_house()
        for name in house:
            house.leave(name)
        self.assertEqual((house.names(), house.deeds()), ([], 5))

    def test_errors(self):
        house = some_house()
        before = told(house)
        for thing in NO_NAMES:
            for watcher in (A, RULED.nothing()):
                with self.subTest(thing=thing), self.assertRaises(BadName) as caught:
                    house.put(thing, watcher)
                self.assertIs(caught.exception.name, thing)
                with self.assertRaises(BadName):
                    house[thing] = watcher
        for other in STRANGERS:
            for name in ("a", "new"):
                with self.assertRaises(UnlikeWorlds):
                    house.put(name, other.nothing())
                with self.assertRaises(UnlikeWorlds):
                    house[name] = other.everything()
        for thing in NO_NAMES + ("c", "new", "x"):
            for ask in (lambda: house.leave(thing), lambda: house.hand(thing, "a"), lambda: house.hand("a", thing),
                        lambda: house.hand(thing, "nobody"), lambda: house[thing]):
                with self.subTest(thing=thing), self.assertRaises(NoName) as caught:
                    ask()
                self.assertIs(caught.exception.name, thing)
        self.assertEqual(told(house), before)

    def test_equal_worlds_told_otherwise(self):
        house = House(RULED)
        house.put("a", Watcher(SAME, [[ONE, NONE]]))
        house.wish("w", ["a"], Watcher(SAME, [[NONE, ONE]]), "knows")
        self.assertEqual((house["a"].rows(), house.met("w")), ([[ONE, NONE]], True))


class Wishes(unittest.TestCase):
    def test_small_ones(self):
        house = House(FREE)
        self.assertIsNone(house.wish("wb", ["a", "b"], A + B, "knows"))
        self.assertIsNone(house.wish(name="wa", who=("a",), other=D, word="blind"))
        self.assertEqual((house.wishes(), house.deeds()), (["wa", "wb"], 0))
        self.assertEqual(type(house.wishes()), list)
        self.assertIs(house.met("wb"), False)
        self.assertIs(house.met(name="wa"), True)
        self.assertEqual(house.put("a", A), [])
        self.assertEqual(house.put("b", C), [("wb", True)])
        self.assertEqual(house.put("a", D), [("wa", False), ("wb", False)])
        self.assertEqual(house.undo(), [("wa", True), ("wb", True)])
        self.assertEqual(house.leave("b"), [("wb", False)])
        self.assertEqual(house.hand("a", "a"), [])
        news = house.put("b", EVERY)
        self.assertEqual((type(news), [type(pair) for pair in news], news), (list, [tuple], [("wb", True)]))
        self.assertEqual(house.hand("b", "a"), [("wa", False)])
        house["a"] = A
        self.assertEqual((house.met("wa"), house.met("wb")), (True, True))

    def test_names_that_are_not_there_and_names_twice(self):
        house = House(FREE)
        house.wish("none", [], FREE.nothing(), "knows")
        house.wish("empty", (), A, "knows")
        house.wish("blind", [], A, "blind")
        house.wish("w", ["x", "a", "x", "a"], A + D, "knows")
        self.assertEqual([(wish, house.met(wish)) for wish in house.wishes()], [
            ("blind", True), ("empty", False), ("none", True), ("w", False),
        ])
        self.assertEqual(house.put("a", A), [])
        self.assertEqual(house.put("y", D), [])
        self.assertEqual(house.put("x", D), [("w", True)])
        self.assertEqual(house.leave("x"), [("w", False)])
        self.assertEqual(house.undo(), [("w", True)])

    def test_both_words(self):
        house = House(FREE)
        house.wish("silent", ["a"], Watcher(FREE, [[NONE, NONE, NONE]]), "blind")
        house.wish("some", ["a"], C, "blind")
        house.wish("known", ["a"], C, "knows")
        for watcher in POOL:
            house["a"] = watcher
            self.assertIs(house.met("silent"), True)
            self.assertIs(house.met("some"), leak(watcher, C) in ("nothing", "known"))
            self.assertIs(house.met("known"), C <= watcher)

    def test_what_is_passed_is_copied(self):
        house, who = House(FREE), ["a"]
        house.wish("w", who, A, "knows")
        who[0] = "b"
        who.append("c")
        self.assertEqual(house.put("b", A), [])
        self.assertEqual(house.put("a", A), [("w", True)])
        got = house.wishes()
        got.append("x")
        self.assertEqual(house.wishes(), ["w"])

    def test_wishes_stay_when_deeds_are_taken_back(self):
        house = House(FREE)
        house.put("a", A)
        house.wish("w", ["a"], A, "knows")
        self.assertIs(house.met("w"), True)
        self.assertEqual(house.undo(), [("w", False)])
        self.assertEqual((house.wishes(), house.met("w")), (["w"], False))

    def test_errors_in_order(self):
        house = some_house()
        before = told(house)
        for thing in NO_NAMES + ("all", "none"):
            for who, other, word in ((["a"], A, "knows"), (["A", None], RULED.nothing(), "know")):
                with self.subTest(thing=thing), self.assertRaises(BadName) as caught:
                    house.wish(thing, who, other, word)
                self.assertIs(caught.exception.name, thing)
        for thing in NO_NAMES:
            for who in ([thing], ("a", thing, "A"), ["x", "a", "a", thing, None]):
                for other, word in ((A, "blind"), (RULED.nothing(), None)):
                    with self.subTest(thing=thing), self.assertRaises(BadName) as caught:
                        house.wish("new", who, other, word)
                    self.assertIs(caught.exception.name, thing)
        for other in STRANGERS:
            for word in ("knows", "blind", None):
                with self.assertRaises(UnlikeWorlds):
                    house.wish("new", ["a"], other.nothing(), word)
        for thing in NO_WORDS:
            with self.subTest(thing=thing), self.assertRaises(BadWord) as caught:
                house.wish("new", ["a"], A, thing)
            self.assertIs(caught.exception.word, thing)
        for thing in NO_NAMES + ("new", "a", "b"):
            with self.subTest(thing=thing), self.assertRaises(NoName) as caught:
                house.met(thing)
            self.assertIs(caught.exception.name, thing)
        self.assertEqual(told(house), before)


class Tried(unittest.TestCase):
    def test_what_work_returns(self):
        house = some_house()
        for thing in (None, 5, [house], "ab"):
            self.assertIs(house.tried(lambda same: thing), thing)
        self.assertIs(house.tried(lambda same: same), house)
        self.assertEqual(house.tried(work=lambda same: same.names()), ["a", "b"])

    def test_the_house_is_as_it_was(self):
        house = some_house()
        before = told(house)

        def work(same):
            same["new"] = D
            same.leave("a")
            same.wish("more", ["new"], D, "knows")
            same.undo()
            same.undo()
            same.undo()
            same.put("b", EVERY)
            return same.names(), same.deeds(), same.wishes(), same.met("more")
        self.assertEqual(house.tried(work), (["a", "b"], 3, ["all", "more", "none"], False))
        self.assertEqual(told(house), before)

    def test_errors_leave_it_as_it_was(self):
        house = some_house()
        before = told(house)

        def work(same):
            same.put("x", A)
            same.undo()
            same.undo()
            same.undo()
            same.wish("more", [], A, "blind")
            raise KeyError("x")
        with self.assertRaises(KeyError):
            house.tried(work)
        self.assertEqual(told(house), before)
        with self.assertRaises(NoName):
            house.tried(lambda same: [same.leave("a"), same.leave("a")])
        self.assertEqual(told(house), before)
        with self.assertRaises(KeyboardInterrupt):
            house.tried(self.interrupted)
        self.assertEqual(told(house), before)

    def interrupted(self, house):
        house.leave("a")
        raise KeyboardInterrupt()

    def test_one_in_another(self):
        house = some_house()
        before = told(house)

        def outer(same):
            same.put("c", C)
            middle = told(same)
            for work in (self.interrupted, lambda one: one.tried(lambda two: two.undo()), lambda one: one.leave("c")):
                try:
                    same.tried(work)
                except KeyboardInterrupt:
                    pass
                self.assertEqual(told(same), middle)
            same.wish("more", ["c"], C, "knows")
            self.assertEqual(same.tried(lambda one: one.leave("c")), [("more", False)])
            return same.undo(), same.wishes()
        self.assertEqual(house.tried(outer), ([("more", False)], ["all", "more", "none"]))
        self.assertEqual(told(house), before)


class Model(unittest.TestCase):
    """A house beside a list of plain dicts, through many drawn deeds."""

    def met(self, held, wish):
        who, other, word = wish
        group = FREE.nothing()
        for name in sorted(set(who)):
            if name in held:
                group = group + held[name]
        return other <= group if word == "knows" else leak(group, other) in ("nothing", "known")

    def draw(self, chance, house, states, wishes, names):
        """Do a drawn deed, and return what came of it; the states tell what is there."""
        held, kind = dict(states[-1]), chance.choice(["put", "put", "item", "leave", "hand", "undo", "wish"])
        one, two, watcher = chance.choice(names), chance.choice(names), chance.choice(POOL)
        if kind == "undo":
            news = house.undo()
            states.pop()
            return news
        if kind == "wish":
            who = [chance.choice(names) for k in range(chance.randint(0, 3))]
            name, word = chance.choice(["v", "w", "ww", "vw"]), chance.choice(["knows", "blind"])
            self.assertIsNone(house.wish(name, who, watcher, word))
            wishes[name] = (who, watcher, word)
            return None
        if kind == "leave":
            news = house.leave(one)
            del held[one]
        elif kind == "hand":
            if one in held and two in held and len(held[one]) + len(held[two]) > 6:
                return None
            news = house.hand(one, two)
            held[two] = held[two] + held[one]
        elif kind == "item":
            house[one] = watcher
            news, held[one] = None, watcher
        else:
            news, held[one] = house.put(one, watcher), watcher
        states.append(held)
        return news

    def test_many_deeds(self):
        for seed in range(4):
            chance, house, states, wishes = chance_of(370 + seed), House(FREE), [{}], {}
            for k in range(60):
                before = {wish: self.met(states[-1], wishes[wish]) for wish in wishes}
                try:
                    news = self.draw(chance, house, states, wishes, ["a", "b", "c", "bb"])
                except SeenError:
                    news = None
                after = {wish: self.met(states[-1], wishes[wish]) for wish in wishes}
                if news is not None:
                    self.assertEqual(news, [(wish, after[wish]) for wish in sorted(after) if after[wish] != before[wish]])
                self.assertEqual(house.names(), sorted(states[-1]))
                self.assertEqual([house[name].rows() for name in house], [states[-1][n].rows() for n in house.names()])
                self.assertEqual((house.deeds(), house.wishes()), (len(states) - 1, sorted(wishes)))
                self.assertEqual({wish: house.met(wish) for wish in house.wishes()}, after)
            self.assertGreater(house.deeds(), 5)


if __name__ == "__main__":
    unittest.main()
