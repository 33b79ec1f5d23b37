"""Points 11 and 12: making sequences and asking them."""

import unittest

from seenrows.errors import BadDigits, BadPrime, BadRule
from seenrows.filters import Filter
from seenrows.sequences import Sequence
from tests.plain import (
    NO_LISTS, NO_PRIMES, NO_RULES, PRIMES, all_filters, chance_of, some_digits, some_rule, some_sequence, stepped,
)

FIBONACCI = Filter(5, [(0, -1), (1, -1), (2, 1)])
PLACE = 10 ** 31
NO_DIGITS = (None, True, False, -1, 3, 10 ** 30, "", "1", [], [1], (1,), {}, Filter(3), Filter(3, [(0, 1)]))


class Making(unittest.TestCase):
    def test_a_small_one(self):
        x = Sequence(FIBONACCI, [0, 1])
        self.assertEqual(x.prime, 5)
        self.assertEqual(x.digits(0, 10), [0, 1, 1, 2, 3, 0, 3, 3, 1, 4])
        self.assertEqual(x.digits(-5, 5), [0, 2, 2, 4, 1])
        self.assertEqual([x[i] for i in range(-5, 10)], x.digits(-5, 15))

    def test_digits_stand_from_the_place_0_on_wherever_the_rule_stands(self):
        chance = chance_of(101)
        for prime in PRIMES:
            for k in range(60):
                rule = some_rule(chance, prime)
                digits = some_digits(chance, prime, rule.span())
                x = Sequence(rule, digits)
                self.assertEqual(x.digits(0, rule.span()), digits)
                if rule.span():
                    self.assertEqual(x.digits(-60, 140), stepped(rule, digits, -60, 80))
                else:
                    self.assertEqual(x, Sequence.zero(prime))
                for moved in (Filter.shift(prime, 5) * rule, (prime - 1) * rule, Filter.shift(prime, -24) * rule):
                    self.assertEqual(Sequence(moved, digits), x)

    def test_the_rule_gives_zeros(self):
        chance = chance_of(102)
        for prime in PRIMES:
            for k in range(30):
                rule = some_rule(chance, prime)
                x = Sequence(rule, some_digits(chance, prime, rule.span()))
                for i in (-PLACE, -30, -1, 0, 1, 17, PLACE):
                    self.assertEqual(sum(c * x[i + o] for o, c in rule.terms()) % prime, 0)

    def test_each_list_of_digits_makes_another_one(self):
        rule = Filter(2, [(-1, 1), (1, 1), (2, 1)])
        made = [Sequence(rule, [a, b, c]) for a in (0, 1) for b in (0, 1) for c in (0, 1)]
        for at, x in enumerate(made):
            for other, y in enumerate(made):
                self.assertIs(x == y, at == other)

    def test_rules_of_one_term(self):
        for rule in (Filter(7, [(0, 1)]), Filter(7, [(-24, 3)]), Filter(7, [(24, 6)])):
            for digits in ([], ()):
                x = Sequence(rule, digits)
                self.assertEqual(x.digits(-3, 6), [0] * 6)
                self.assertEqual(x, Sequence.zero(7))

    def test_lists_and_tuples_and_names(self):
        x = Sequence(FIBONACCI, [3, 4])
        self.assertEqual(Sequence(FIBONACCI, (3, 4)), x)
        self.assertEqual(Sequence(rule=FIBONACCI, digits=[3, 4]), x)
        self.assertEqual(Sequence.zero(prime=3), Sequence.zero(3))
        self.assertEqual(Sequence.repeated(prime=3, word=(1, 2)), Sequence.repeated(3, [1, 2]))
        self.assertEqual(x.digits(start=-2, count=5), x.digits(-2, 5))
        self.assertEqual(x.moved(k=3), x.moved(3))

    def test_zero(self):
        for prime in PRIMES:
            x = Sequence.zero(prime)
            self.assertEqual((x.prime, x.digits(-PLACE, 5), x[0], x[PLACE]), (prime, [0] * 5, 0, 0))
            self.assertEqual(x.rule(), Filter(prime, [(0, 1)]))
            self.assertIs(bool(x), False)

    def test_repeated(self):
        chance = chance_of(103)
        for prime in PRIMES:
            for count in range(1, 13):
                word = some_digits(chance, prime, count)
                x = Sequence.repeated(prime, word)
                self.assertEqual(x.prime, prime)
                self.assertEqual(x.digits(-40, 80), [word[i % count] for i in range(-40, 40)])
                for i in (PLACE, -PLACE, PLACE - 1, 1 - PLACE, 12345678901234567890):
                    self.assertEqual(x[i], word[i % count])
                    self.assertEqual(x.digits(i, 30), [word[(i + k) % count] for k in range(30)])
                self.assertEqual(Sequence.repeated(prime, tuple(word) * 3), x)
                self.assertIs(bool(x), any(word))

    def test_long_words(self):
        chance = chance_of(104)
        for prime, count in ((2, 1300), (7, 1100), (3, 200)):
            word = some_digits(chance, prime, count)
            x = Sequence.repeated(prime, word)
            self.assertEqual(x.digits(-5, 10), word[-5:] + word[:5])
            self.assertEqual(x.digits(PLACE, 4), [word[(PLACE + k) % count] for k in range(4)])


class Digits(unittest.TestCase):
    def test_counts(self):
        x = Sequence(FIBONACCI, [0, 1])
        self.assertEqual(x.digits(3, 0), [])
        self.assertEqual(x.digits(-PLACE, 0), [])
        self.assertEqual(x.digits(3, 1), [2])
        self.assertEqual(len(x.digits(-100, 200)), 200)
        self.assertEqual(x.digits(-100, 200)[100:], x.digits(0, 100))
        self.assertEqual(Sequence.zero(5).digits(7, 3), [0, 0, 0])

    def test_far_places_follow_the_rule(self):
        chance = chance_of(105)
        for prime in PRIMES:
            for k in range(10):
                rule = some_rule(chance, prime)
                x = Sequence(rule, some_digits(chance, prime, rule.span()))
                for start in (PLACE, -PLACE, chance.randint(-PLACE, PLACE), 1000, -1000, 1030, -1030):
                    got = x.digits(start, 40)
                    self.assertEqual(got, [x[start + k] for k in range(40)])
                    if rule.span():
                        self.assertEqual(got, stepped(rule, got[:rule.span()], 0, 40))

    def test_far_places_against_the_period(self):
        # The digits of this sequence repeat after 20 places.
        x = Sequence(FIBONACCI, [0, 1])
        for place in (PLACE, -PLACE, PLACE - 7, 3 - PLACE):
            self.assertEqual(x.digits(place, 25), x.digits(place % 20, 25))

    def test_lists_are_new(self):
        x = Sequence(FIBONACCI, [0, 1])
        got = x.digits(0, 3)
        got[0] = 4
        got.append(9)
        self.assertEqual(x.digits(0, 3), [0, 1, 1])

    def test_what_is_passed_is_copied_and_not_changed(self):
        digits, word = [2, 3], [1, 0, 2]
        x, y = Sequence(FIBONACCI, digits), Sequence.repeated(3, word)
        self.assertEqual((digits, word), ([2, 3], [1, 0, 2]))
        digits[0] = word[0] = 0
        digits.append(1)
        word.append(2)
        self.assertEqual(x.digits(0, 2), [2, 3])
        self.assertEqual(y.digits(0, 4), [1, 0, 2, 1])

    def test_kinds(self):
        x = Sequence(FIBONACCI, [0, 1])
        self.assertIs(type(x.digits(0, 3)), list)
        self.assertEqual({type(digit) for digit in x.digits(-9, 20)} | {type(x[PLACE])}, {int})
        self.assertEqual((type(bool(x)), type(x == x), type(x != x)), (bool, bool, bool))
        self.assertIsInstance(x.rule(), Filter)

    def test_no_list_of_places(self):
        with self.assertRaises(TypeError):
            list(Sequence(FIBONACCI, [0, 1]))


class LeastRules(unittest.TestCase):
    def test_small_ones(self):
        for x, terms in (
            (Sequence(FIBONACCI, [0, 1]), [(0, 4), (1, 4), (2, 1)]),
            (Sequence(FIBONACCI, [0, 0]), [(0, 1)]),
            (Sequence.repeated(5, [3]), [(0, 4), (1, 1)]),
            (Sequence.repeated(5, [3, 2]), [(0, 1), (1, 1)]),
            (Sequence.repeated(2, [1, 0, 1, 0]), [(0, 1), (2, 1)]),
            (Sequence.repeated(2, [1, 1, 0]), [(0, 1), (1, 1), (2, 1)]),
            (Sequence.repeated(3, [0, 0, 1]), [(0, 2), (3, 1)]),
            (Sequence(Filter(3, [(5, 2), (7, 1), (6, 2)]), [1, 1]), [(0, 2), (1, 2), (2, 1)]),
        ):
            self.assertEqual(x.rule().terms(), terms)

    def test_it_divides_each_small_filter_that_rules(self):
        chance = chance_of(106)
        for prime, last in ((2, 6), (3, 4)):
            filters = [f for f in all_filters(prime, 0, last) if f]
            for k in range(12):
                f = chance.choice(filters)
                x = Sequence(f, some_digits(chance, prime, f.span()))
                least = x.rule()
                self.assertEqual(least, least.normal())
                self.assertLessEqual(least.span(), f.span())
                digits = x.digits(0, 30)
                for g in filters:
                    rules = not any(sum(c * digits[i + o] for o, c in g.terms()) % prime for i in range(20))
                    self.assertIs(rules, not g % least, (f.terms(), g.terms()))

    def test_it_rules_and_makes_the_same_sequence(self):
        chance = chance_of(107)
        for prime in PRIMES:
            for k in range(40):
                x = some_sequence(chance, prime)
                least = x.rule()
                self.assertEqual((least.prime, least.low(), least[least.high()]), (prime, 0, 1))
                self.assertEqual(Sequence(least, x.digits(0, least.span())), x)
                self.assertEqual(Sequence(least, x.digits(0, least.span())).rule(), least)
                more = least * some_rule(chance, prime)
                self.assertEqual(Sequence(more, x.digits(0, more.span())), x)


class Truth(unittest.TestCase):
    def test_bool(self):
        rule = Filter(3, [(0, 1), (2, 1), (5, 2)])
        for at in range(5):
            x = Sequence(rule, [2 if k == at else 0 for k in range(5)])
            self.assertIs(bool(x), True)
        self.assertIs(bool(Sequence(rule, [0] * 5)), False)
        self.assertIs(bool(Sequence.repeated(2, [0, 0])), False)

    def test_equality(self):
        chance = chance_of(108)
        x = Sequence.repeated(2, [1, 0, 0])
        self.assertEqual(x, Sequence(Filter(2, [(0, 1), (3, 1)]), [1, 0, 0]))
        self.assertEqual(x, Sequence.repeated(2, [1, 0, 0, 1, 0, 0]))
        self.assertNotEqual(x, Sequence.repeated(2, [0, 1, 0]))
        self.assertNotEqual(x, Sequence.repeated(2, [1, 0, 0, 1]))
        self.assertNotEqual(x, Sequence.repeated(3, [1, 0, 0]))
        for prime in PRIMES:
            for other in PRIMES:
                self.assertIs(Sequence.zero(prime) == Sequence.zero(other), prime == other)
                self.assertIs(Sequence.zero(prime) != Sequence.zero(other), prime != other)
                self.assertIs(Sequence.repeated(prime, [1]) == Sequence.repeated(other, [1]), prime == other)
            for k in range(20):
                x, y = some_sequence(chance, prime, 2), some_sequence(chance, prime, 2)
                self.assertIs(x == y, x.digits(0, 8) == y.digits(0, 8))

    def test_no_sequences(self):
        for x in (Sequence.zero(2), Sequence.repeated(2, [1]), Sequence.repeated(3, [1, 2])):
            for thing in (None, True, False, 0, 1, "", [], (), [1], {}, Filter(2), Filter(2, [(0, 1)]), [x], (x,)):
                self.assertIs(x == thing, False)
                self.assertIs(thing == x, False)
                self.assertIs(x != thing, True)
                self.assertIs(thing != x, True)


class Wrong(unittest.TestCase):
    def test_no_rules(self):
        for thing in NO_RULES:
            for digits in ([], [0], None, "ab"):
                with self.subTest(thing=thing), self.assertRaises(BadRule):
                    Sequence(thing, digits)
        with self.assertRaises(BadRule):
            Sequence(Sequence.zero(2), [])

    def test_no_digits(self):
        rule = Filter(3, [(-2, 1), (0, 2)])
        wrong = list(NO_LISTS) + [Sequence.zero(3), [], [0], (1,), [0, 0, 0], (1, 2, 0), [[0], 1], [[0, 1]]]
        for thing in wrong + [pair for bad in NO_DIGITS for pair in ([bad, 1], (1, bad), [bad, bad])]:
            with self.subTest(thing=thing), self.assertRaises(BadDigits):
                Sequence(rule, thing)
        for thing in (None, 0, "", {}, [0], (0,), [None]):
            with self.assertRaises(BadDigits):
                Sequence(Filter(3, [(4, 2)]), thing)

    def test_digits_belong_to_the_prime(self):
        for prime in PRIMES:
            rule = Filter(prime, [(0, 1), (1, 1)])
            for digit in (-1, prime, prime + 1, -prime, 10 ** 30):
                with self.assertRaises(BadDigits):
                    Sequence(rule, [digit])
                with self.assertRaises(BadDigits):
                    Sequence.repeated(prime, [0, digit])
            self.assertEqual(Sequence(rule, [prime - 1])[0], prime - 1)

    def test_no_primes(self):
        for thing in NO_PRIMES:
            for call in (
                lambda: Sequence.zero(thing), lambda: Sequence.repeated(thing, [0]),
                lambda: Sequence.repeated(thing, None), lambda: Sequence.repeated(prime=thing, word=[]),
            ):
                with self.subTest(thing=thing), self.assertRaises(BadPrime) as caught:
                    call()
                self.assertIs(caught.exception.prime, thing)

    def test_no_words(self):
        wrong = list(NO_LISTS) + [[], (), Sequence.zero(3)]
        for thing in wrong + [word for bad in NO_DIGITS for word in ([bad], (1, bad), [0, 1, bad, 2])]:
            with self.subTest(thing=thing), self.assertRaises(BadDigits):
                Sequence.repeated(3, thing)


if __name__ == "__main__":
    unittest.main()
