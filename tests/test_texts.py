"""Points 39 and 40: texts of filters and of circles."""

import re
import unittest

from seenrows.circles import Circle
from seenrows.errors import BadLine, BadPrime, BadText
from seenrows.filters import Filter
from seenrows.houses import House
from seenrows.texts import read_circle, read_filter, write_circle, write_filter
from seenrows.worlds import Watcher, World
from tests.plain import FAR, NO_PRIMES, PRIMES, chance_of, some_filter, some_row
from tests.test_telling import RULED

ONE, STEP, NONE = Filter(3, [(0, 1)]), Filter(3, [(0, 2), (1, 1)]), Filter(3)
SIGNS = [chr(number) for number in range(32, 127)] + ["\n"]
NO_STRINGS = (
    None, True, False, 0, 1, [], ["0"], (), ("1@0",), {}, {"0": 0}, Filter(2), Filter(3, [(0, 1)]), World(3, 2),
    Circle(World(3, 2)),
)
NO_TEXTS = (
    "", " ", "1", "@", "+", "-", "00", "+0", "-0", "0 ", " 0", "0\n", "\n", "0@0", "1@", "@0", "1@-0", "1@00", "1@01",
    "1@+1", "1@ 1", "1 @1", "1@1 ", " 1@1", "1@1\n", "01@1", "+1@1", "-1@1", "3@1", "10@1", "1@1+", "+1@1+1@2", "1@1++1@2",
    "1@1+1@1", "1@2+1@1", "1@1+2@-1", "1@1 + 1@2", "1@1,1@2", "1@1-1@2", "1@1@1", "1@1+0@2", "1@1+0", "0+1@1", "1@1_0",
    "1@a", "a@1", "1@--1", "1@-", "1@1.0", "1@1e2", "1@0x1", "x", "1@0+3@1", "world 3 1\n",
)
TEXT = """world 3 2
rule 2@0+1@1 1@0
rule 0 0
watcher a
watcher ab
sees 1@-3 0
sees 0 2@99
sees 0 0
watcher b
sees 1@0+1@1+1@2 2@-99
"""


def is_filter_text(prime, text):
    """Tell by the words of point 39 whether this is the text of a filter."""
    if text == "0":
        return True
    if not re.fullmatch(r"[1-9]@(0|-?[1-9][0-9]*)([+][1-9]@(0|-?[1-9][0-9]*))*", text):
        return False
    pairs = [[int(number) for number in term.split("@")] for term in text.split("+")]
    offsets = [offset for digit, offset in pairs]
    return all([digit < prime for digit, offset in pairs]) and offsets == sorted(set(offsets))


def bad_line(text):
    """The number of the first line that is not as told or cannot stand there, None if the text is a circle's."""
    lines = text.split("\n")
    prime = width = name = None
    for index, line in enumerate(lines[:-1]):
        row = re.fullmatch(r"(rule|sees)((?: [^ ]+)+)", line)
        if index == 0:
            head = re.fullmatch(r"world ([2357]) ([1-9][0-9]*)", line)
            if not head:
                return 0
            prime, width = int(head[1]), int(head[2])
        elif row:
            words = row[2].split(" ")[1:]
            stands = (row[1] == "rule") == (name is None)
            if not stands or len(words) != width or not all([is_filter_text(prime, word) for word in words]):
                return index
        else:
            told = re.fullmatch(r"watcher ([a-z]{1,8})", line)
            if not told or (name is not None and told[1] <= name):
                return index
            name = told[1]
    return len(lines) - 1 if lines[-1] or len(lines) == 1 else None


def altered(chance, text):
    """The text with one sign put in, left out or exchanged."""
    at, sign = chance.randint(0, len(text)), chance.choice(SIGNS if chance.random() < 0.5 else list("0123@+- \naz"))
    kind = chance.randint(0, 2)
    return text[:at] + ("" if kind == 0 else sign) + text[at + (0 if kind == 1 else 1):]


def some_circle(chance, prime):
    width = chance.randint(1, 3)
    rows = [some_row(chance, prime, width, 3, 99) for k in range(chance.randint(0, 3))]
    world = World(prime, width, rows)
    names = chance.sample(["a", "b", "ab", "abcdefgh", "zz"], chance.randint(0, 3))
    return Circle(world, [
        (name, Watcher(world, [some_row(chance, prime, width, 3, 99) for k in range(chance.randint(0, 2))]))
        for name in names
    ])


class Filters(unittest.TestCase):
    def test_small_ones(self):
        for f, text in (
            (Filter(3, [(3, 2), (0, 1)]), "1@0+2@3"), (Filter(5, [(-1, 4)]), "4@-1"), (Filter(2), "0"), (NONE, "0"),
            (Filter(7, [(0, 6)]), "6@0"), (Filter(7, [(-10, 1), (10, 6), (0, 3)]), "1@-10+3@0+6@10"),
            (Filter(2, [(FAR, 1), (-FAR, 1)]), f"1@-{FAR}+1@{FAR}"),
        ):
            self.assertEqual((type(write_filter(f)), write_filter(f), write_filter(f=f)), (str, text, text))
            self.assertEqual((read_filter(f.prime, text), read_filter(prime=f.prime, text=text)), (f, f))

    def test_written_and_read_again(self):
        chance = chance_of(391)
        for prime in PRIMES:
            for k in range(40):
                f = some_filter(chance, prime, 8, chance.choice([3, 24, FAR]))
                text = write_filter(f)
                self.assertTrue(is_filter_text(prime, text))
                self.assertEqual(read_filter(prime, text), f)

    def test_offsets_of_any_size(self):
        far = "9" * 990
        for prime in PRIMES:
            f = read_filter(prime, "1@-" + far)
            self.assertEqual((f.low(), f.span(), write_filter(f)), (-int(far), 0, "1@-" + far))

    def test_no_primes(self):
        for thing in NO_PRIMES:
            for text in ("1@0", "no text", None):
                with self.subTest(thing=thing), self.assertRaises(BadPrime) as caught:
                    read_filter(thing, text)
                self.assertIs(caught.exception.prime, thing)

    def test_no_texts(self):
        for thing in NO_TEXTS + NO_STRINGS:
            with self.subTest(thing=thing), self.assertRaises(BadText):
                read_filter(3, thing)
        for text, prime in (("2@0", 2), ("1@0+3@1", 3), ("5@0", 5), ("7@0", 7), ("8@0", 7), ("0@1", 5)):
            with self.assertRaises(BadText):
                read_filter(prime, text)

    def test_one_sign_altered(self):
        chance = chance_of(401)
        seen = {True: 0, False: 0}
        for prime in PRIMES:
            for k in range(300):
                text = altered(chance, write_filter(some_filter(chance, prime, 4, 24)))
                seen[is_filter_text(prime, text)] += 1
                if is_filter_text(prime, text):
                    self.assertEqual(write_filter(read_filter(prime, text)), text)
                else:
                    with self.subTest(text=text), self.assertRaises(BadText):
                        read_filter(prime, text)
        self.assertGreater(min(seen.values()), 100)


class Circles(unittest.TestCase):
    def check(self, text):
        """Tell whether the text is that of a circle, after a look at what comes of reading it."""
        index = bad_line(text)
        if index is None:
            self.assertEqual(write_circle(read_circle(text)), text)
            return True
        with self.subTest(text=text), self.assertRaises(BadLine) as caught:
            read_circle(text)
        self.assertEqual((type(caught.exception.index), caught.exception.index), (int, index), text)
        return False

    def test_a_small_one(self):
        world = World(3, 2, [[STEP, ONE], [NONE, NONE]])
        shift, back = Filter.shift(3, -3), Filter(3, [(99, 2)])
        circle = Circle(world, [
            ("b", Watcher(world, [[Filter(3, [(0, 1), (1, 1), (2, 1)]), Filter(3, [(-99, 2)])]])), ("a", world.nothing()),
            ("ab", Watcher(world, [[shift, NONE], [NONE, back], [NONE, NONE]])),
        ])
        self.assertEqual((type(write_circle(circle)), write_circle(circle), write_circle(circle=circle)), (str, TEXT, TEXT))
        got = read_circle(text=TEXT)
        self.assertIs(type(got), Circle)
        self.assertEqual((got.world.rules(), got.names()), (world.rules(), ["a", "ab", "b"]))
        self.assertEqual([got[name].rows() for name in got], [circle[name].rows() for name in circle])
        self.assertTrue(got == circle == read_circle(TEXT))
        self.assertEqual(write_circle(got), TEXT)

    def test_small_texts(self):
        for text in ("world 2 1\n", "world 7 100\n", f"world 5 {FAR}\n", "world 3 1\nrule 0\n", "world 3 1\nwatcher a\n"):
            self.assertTrue(self.check(text))
        self.assertEqual(write_circle(Circle(World(7, 3))), "world 7 3\n")
        wide = "world 3 100\nrule" + " 0" * 99 + " 1@-99+2@99\nwatcher a\nsees" + " 1@0" * 100 + "\n"
        self.assertTrue(self.check(wide))
        self.assertEqual(read_circle(wide)["a"].rows(), [[ONE] * 100])

    def test_houses_and_worlds_told_otherwise(self):
        house = House(RULED)
        house.wish("w", ["a"], RULED.everything(), "knows")
        house["b"] = Watcher(World(3, 2, [[2 * STEP, 2 * ONE]]), [[NONE, ONE]])
        house["a"] = RULED.nothing()
        text = "world 3 2\nrule 2@0+1@1 1@0\nwatcher a\nwatcher b\nsees 0 1@0\n"
        self.assertEqual(write_circle(house), text)
        self.assertEqual(write_circle(read_circle(text)), text)

    def test_written_and_read_again(self):
        chance = chance_of(402)
        for prime in PRIMES:
            for k in range(12):
                circle = some_circle(chance, prime)
                text = write_circle(circle)
                self.assertIsNone(bad_line(text))
                got = read_circle(text)
                self.assertEqual((got.world.prime, got.world.width), (prime, circle.world.width))
                self.assertEqual((got.world.rules(), got.names()), (circle.world.rules(), circle.names()))
                self.assertEqual([got[name].rows() for name in got], [circle[name].rows() for name in circle])
                self.assertTrue(got == circle)
                self.assertEqual(write_circle(got), text)

    def test_no_texts(self):
        for thing in NO_STRINGS:
            with self.subTest(thing=thing), self.assertRaises(BadLine) as caught:
                read_circle(thing)
            self.assertEqual(caught.exception.index, 0)
        for text, index in (
            ("", 0), ("\n", 0), ("world 3 2", 0), ("world 3 0\n", 0), ("world 3 02\n", 0), ("world 4 2\n", 0),
            ("world 3 -1\n", 0), ("world 3 2 \n", 0), (" world 3 2\n", 0), ("world  3 2\n", 0), ("world 3\n", 0),
            ("world 3 2 2\n", 0), ("World 3 2\n", 0), ("world 3 +2\n", 0), ("world 03 2\n", 0), ("rule 0 0\n", 0),
            ("watcher a\n", 0), ("world 3 2\n\n", 1), ("world 3 2\nworld 3 2\n", 1), ("world 3 2\nrule 0\n", 1),
            ("world 3 2\nrule 0 0 0\n", 1), ("world 3 2\nrule\n", 1), ("world 3 2\nrule 0 0 \n", 1),
            ("world 3 2\nrule  0 0\n", 1), ("world 3 2\nrule 0 3@0\n", 1), ("world 3 2\nrule 0 1@1+1@0\n", 1),
            ("world 3 2\nsees 0 0\n", 1), ("world 3 2\nrule 0 0\nsees 0 0\n", 2), ("world 3 2\nwatcher\n", 1),
            ("world 3 2\nwatcher A\n", 1), ("world 3 2\nwatcher abcdefghi\n", 1), ("world 3 2\nwatcher a b\n", 1),
            ("world 3 2\nwatcher a\nwatcher a\n", 2), ("world 3 2\nwatcher b\nsees 0 0\nwatcher a\n", 3),
            ("world 3 2\nwatcher a\nrule 0 0\n", 2), ("world 3 2\nwatcher a\nsees 0\n", 2),
            ("world 3 2\nwatcher a\nsees 0 0", 2), ("world 3 2\nwatcher a", 1), ("world 3 2\nx", 1),
            ("world 3 2\nwatcher a\n ", 2), ("world 3 2\nx\nwatcher a", 1), ("world 3 2\nwatcher a\n\n\n", 2),
        ):
            self.assertEqual(bad_line(text), index, text)
            self.check(text)

    def test_one_sign_altered(self):
        chance = chance_of(403)
        seen = {True: 0, False: 0}
        for prime in PRIMES:
            for k in range(150):
                seen[self.check(altered(chance, write_circle(some_circle(chance, prime))))] += 1
        for k in range(400):
            seen[self.check(altered(chance, TEXT))] += 1
        self.assertGreater(min(seen.values()), 40)

    def test_every_sign_left_out(self):
        for at in range(len(TEXT)):
            self.check(TEXT[:at] + TEXT[at + 1:])
            self.check(TEXT[:at])
            self.check(TEXT[at:])

    def test_lines_left_out_twice_and_exchanged(self):
        lines = TEXT.splitlines(True)
        for at in range(len(lines)):
            self.check("".join(lines[:at] + lines[at + 1:]))
            self.check("".join(lines[:at + 1] + lines[at:]))
            for other in range(at):
                mixed = list(lines)
                mixed[at], mixed[other] = mixed[other], mixed[at]
                self.check("".join(mixed))


if __name__ == "__main__":
    unittest.main()
