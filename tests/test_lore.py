"""A lore ([27], [28], and what [2], [3], [4] say of it)."""

import random
import unittest

from askback.bars import bar_of
from askback.errors import BadHouse, BadMoment, BadSaying, BadTeller, NoEntry, NoHouse, SameMoment
from askback.follows import may_be
from askback.house import House
from askback.lore import Lore
from askback.sightings import least_house, reaches
from tests.plain import FAR, NO_KS, NO_LISTS, NO_SAYINGS, far_sayings

NO_MOMENTS = [None, True, False, "", "0", "1", [], [1], (), (1,), {}, {1: 1}, -1, -10 ** 50, [[0]], ({},)]
NO_TELLERS = [None, True, False, 0, 1, "", "Ann", "ANN", "ann ", " ann", "a b", "ann1", "1", "a_b", "a-b", "ann\n",
              "a\tb", "abcdefghijklm", "a" * 40, ["ann"], ("ann",), {"ann": 1}, [], (), {}]
TELLERS = ["a", "ann", "bob", "carl", "zzzzzzzzzzzz"]
SIGHT = ("at most", 4, 4)


def lore_of(k, entries):
    lore = Lore(k)
    for moment, teller, what in entries:
        tell(lore, moment, teller, what)
    return lore


def tell(lore, moment, teller, what):
    if what is True:
        lore.trusts(moment, teller)
    elif what is False:
        lore.leaves(moment, teller)
    else:
        lore.sees(moment, teller, what)


def some_entries(chance, many, sayings):
    """Entries of moments here and there, not in order; about every fourth leaves or trusts a teller."""
    moments = chance.sample(range(5 * many), many)
    entries = []
    for moment in moments:
        what = chance.choice([True, False, False]) if chance.random() < 0.3 else chance.choice(sayings)
        entries.append((moment, chance.choice(TELLERS), what))
    return entries


def small_sayings(chance):
    rows = [(chance.choice(["at most", "at least"]), chance.randrange(1, 20)) for _ in range(20)]
    return [(word, place, chance.randrange(max(1, place // 3), place // 2 + 3)) for word, place in rows]


def rows_of_entries():
    """(k, entries) of near and far sayings."""
    chance = random.Random(91)
    rows = []
    for k in (2, 3, 4):
        for _ in range(15):
            rows.append((k, some_entries(chance, chance.randrange(1, 30), small_sayings(chance))))
    for k in (2, 3, 30):
        houses = [House(k, [chance.randrange(1, 10 ** 60) for _ in range(k - 1)]) for _ in range(2)]
        sayings = far_sayings(houses[0], chance, 20, 10 ** 3) + far_sayings(houses[1], chance, 4, 10 ** 90)
        rows.append((k, some_entries(chance, 40, sayings)))
    return rows


def counting_by_rule(entries, upto):
    """(teller, saying) of those that count up to the moment, by their moments."""
    there = sorted([entry for entry in entries if upto is None or entry[0] <= upto], key=lambda entry: entry[0])
    found = []
    for _, teller, what in there:
        told = [word for _, other, word in there if other == teller and isinstance(word, bool)]
        if not isinstance(what, bool) and (not told or told[-1]):
            found.append((teller, what))
    return found


def uptos(entries):
    moments = sorted(entry[0] for entry in entries)
    return [None, 0, moments[0], moments[len(moments) // 2], moments[len(moments) // 2] + 1, moments[-1], FAR]


class EntriesTest(unittest.TestCase):
    def test_in_any_order_up_to_a_moment_and_of_all(self):
        chance = random.Random(92)
        for k, entries in rows_of_entries():
            lore = lore_of(k, entries)
            in_order = sorted(entries, key=lambda entry: entry[0])
            self.assertEqual(lore.entries(), in_order)
            self.assertEqual(len(lore), len(entries))
            self.assertEqual(lore.base(), k)
            for upto in uptos(entries):
                told = lore.entries(upto=upto)
                self.assertEqual(told, [entry for entry in in_order if upto is None or entry[0] <= upto])
                self.assertTrue(all(type(entry) is tuple for entry in told))
            chance.shuffle(entries)
            self.assertEqual(lore_of(k, entries).entries(), in_order)

    def test_false_and_true_in_the_sayings_place(self):
        lore = Lore(3)
        lore.leaves(5, "ann")
        lore.sees(0, "ann", SIGHT)
        lore.trusts(10 ** 150, "ann")
        told = lore.entries()
        self.assertEqual(told, [(0, "ann", SIGHT), (5, "ann", False), (10 ** 150, "ann", True)])
        self.assertIs(told[1][2], False)
        self.assertIs(told[2][2], True)
        self.assertEqual(lore.entries(upto=5), told[:2])
        self.assertEqual(lore.entries(upto=4), told[:1])
        self.assertEqual(lore.entries(upto=0), told[:1])

    def test_of_none(self):
        lore = Lore(3)
        self.assertEqual((len(lore), lore.entries(), lore.sayings(), lore.turns()), (0, [], [], []))
        self.assertEqual(lore.reaches(), (0, None))
        self.assertEqual((lore.barred_by(), lore.freed_by()), (None, None))
        self.assertEqual(lore.entries(upto=7), [])

    def test_dropped_and_told_again_at_its_moment(self):
        lore = lore_of(3, [(4, "ann", SIGHT), (2, "bob", False), (9, "bob", SIGHT)])
        self.assertIsNone(lore.drop(2))
        self.assertEqual(lore.entries(), [(4, "ann", SIGHT), (9, "bob", SIGHT)])
        self.assertEqual(lore.sayings(), [SIGHT, SIGHT])
        with self.assertRaises(NoEntry):
            lore.drop(2)
        lore.sees(2, "carl", ("at least", 1, 1))
        self.assertEqual(lore.entries()[0], (2, "carl", ("at least", 1, 1)))
        self.assertEqual(len(lore), 3)
        for moment in (2, 4, 9):
            lore.drop(moment)
        self.assertEqual(len(lore), 0)

    def test_nothing_is_told_of_a_deed(self):
        lore = Lore(2)
        self.assertIsNone(lore.sees(1, "ann", SIGHT))
        self.assertIsNone(lore.leaves(2, "ann"))
        self.assertIsNone(lore.trusts(3, "ann"))
        self.assertIsNone(lore.drop(3))

    def test_two_lores_are_two(self):
        one, other = Lore(2), Lore(2)
        one.sees(1, "ann", SIGHT)
        self.assertEqual((len(one), len(other)), (1, 0))

    def test_told_lists_are_the_askers_own(self):
        lore = lore_of(3, [(4, "ann", SIGHT), (2, "bob", False), (9, "carl", ("at least", 4, 5))])
        for call in (lore.entries, lore.sayings, lore.turns, lore.barred_by, lore.freed_by):
            kept = list(call())
            call().append(5)
            call().clear()
            self.assertEqual(call(), kept)
        self.assertEqual(len(lore), 3)


class RefusedTest(unittest.TestCase):
    def setUp(self):
        self.lore = lore_of(3, [(4, "ann", SIGHT), (2, "bob", False), (1, "ann", True)])
        self.before = self.lore.entries()

    def refused(self, error, field, worth, call):
        with self.assertRaises(error) as caught:
            call()
        told = getattr(caught.exception, field)
        self.assertEqual(told, worth)
        self.assertIs(type(told), type(worth))
        self.assertEqual(self.lore.entries(), self.before)
        self.assertEqual(len(self.lore), 3)

    def test_what_is_no_k(self):
        for k in NO_KS:
            with self.assertRaises(BadHouse) as caught:
                Lore(k)
            self.assertEqual(caught.exception.part, "k")
        for k in range(2, 31):
            self.assertEqual(Lore(k).base(), k)

    def test_what_is_no_moment_ahead_of_all_else(self):
        for moment in NO_MOMENTS:
            for teller in ("ann", "Ann", None, []):
                self.refused(BadMoment, "moment", moment, lambda: self.lore.leaves(moment, teller))
                self.refused(BadMoment, "moment", moment, lambda: self.lore.trusts(moment, teller))
                for what in (SIGHT, None, [], True):
                    self.refused(BadMoment, "moment", moment, lambda: self.lore.sees(moment, teller, what))

    def test_then_what_is_no_teller(self):
        for teller in NO_TELLERS:
            for moment in (0, 4, 7, FAR):
                self.refused(BadTeller, "teller", teller, lambda: self.lore.leaves(moment, teller))
                self.refused(BadTeller, "teller", teller, lambda: self.lore.trusts(moment, teller))
                for what in (SIGHT, None, [], True):
                    self.refused(BadTeller, "teller", teller, lambda: self.lore.sees(moment, teller, what))

    def test_then_what_is_no_saying(self):
        for what in NO_SAYINGS + NO_LISTS:
            for moment in (0, 4, FAR):
                self.refused(BadSaying, "place", 0, lambda: self.lore.sees(moment, "ann", what))

    def test_then_a_moment_that_has_an_entry(self):
        for moment in (1, 2, 4):
            self.refused(SameMoment, "moment", moment, lambda: self.lore.sees(moment, "carl", SIGHT))
            self.refused(SameMoment, "moment", moment, lambda: self.lore.leaves(moment, "ann"))
            self.refused(SameMoment, "moment", moment, lambda: self.lore.trusts(moment, "bob"))

    def test_dropped_where_there_is_no_entry(self):
        for moment in NO_MOMENTS + [0, 3, 5, FAR, "ann", SIGHT]:
            self.refused(NoEntry, "moment", moment, lambda: self.lore.drop(moment))

    def test_up_to_what_is_no_moment(self):
        for upto in NO_MOMENTS[1:]:
            for call in (self.lore.entries, self.lore.sayings, self.lore.reaches, self.lore.barred_by,
                         self.lore.freed_by):
                self.refused(BadMoment, "moment", upto, lambda: call(upto=upto))
            self.refused(BadMoment, "moment", upto, lambda: self.lore.house(4, upto=upto))
            self.refused(BadMoment, "moment", upto, lambda: self.lore.may_be(4, upto=upto))

    def test_fields_are_copies(self):
        thing = [[1]]
        for call in (lambda: self.lore.drop(thing), lambda: self.lore.leaves(thing, "ann"),
                     lambda: self.lore.leaves(7, thing)):
            with self.assertRaises((NoEntry, BadMoment, BadTeller)) as caught:
                call()
            thing[0].append(2)
            self.assertEqual(list(vars(caught.exception).values()), [[[1]]])
            thing[0].pop()

    def test_tellers_are_words_of_one_to_twelve_small_letters(self):
        lore = Lore(2)
        for moment, teller in enumerate(["a", "z", "is", "sees", "abcdefghijkl", "zzzzzzzzzzzz"]):
            lore.leaves(moment, teller)
        self.assertEqual(len(lore), 6)


class CountTest(unittest.TestCase):
    def test_which_sayings_count(self):
        for k, entries in rows_of_entries():
            lore = lore_of(k, entries)
            for upto in uptos(entries) + list(range(0, 5 * len(entries), 3)):
                by_rule = [saying for _, saying in counting_by_rule(entries, upto)]
                self.assertEqual(lore.sayings(upto=upto), by_rule)
            self.assertTrue(all(type(saying) is tuple for saying in lore.sayings()))

    def test_left_and_trusted_again(self):
        first, second, third = ("at most", 1, 1), ("at most", 2, 2), ("at most", 3, 3)
        lore = lore_of(2, [(1, "ann", first), (3, "ann", False), (5, "ann", second), (7, "ann", True),
                           (8, "bob", third), (9, "ann", False), (9 + 1, "bob", True)])
        told = [lore.sayings(upto=upto) for upto in range(11)]
        self.assertEqual(told, [[], [first], [first], [], [], [], [], [first, second], [first, second, third],
                                [third], [third]])
        lore.drop(9)
        self.assertEqual(lore.sayings(), [first, second, third])
        lore.drop(7)
        self.assertEqual(lore.sayings(), [third])
        lore.leaves(7, "bob")
        self.assertEqual(lore.sayings(upto=9), [])
        self.assertEqual(lore.sayings(), [third])


class AnswersTest(unittest.TestCase):
    def test_against_what_is_told_of_the_sayings_that_count(self):
        none = 0
        for k, entries in rows_of_entries():
            lore = lore_of(k, entries)
            for upto in uptos(entries):
                counting = counting_by_rule(entries, upto)
                sayings = [saying for _, saying in counting]
                span = reaches(k, sayings)
                none += span is None
                self.assertEqual(lore.reaches(upto=upto), span)
                for reach in {0, 3, FAR} | set([span[0], span[0] + 2] if span else []):
                    self.assertTrue(lore.house(reach, upto=upto) == least_house(k, sayings, reach))
                for place in (1, 7, 10 ** 40):
                    if span is None:
                        with self.assertRaises(NoHouse):
                            lore.may_be(place, upto=upto)
                    else:
                        self.assertEqual(lore.may_be(place, upto=upto), may_be(k, sayings, place))
                self.check_tellers(lore, counting, upto)
        self.assertGreater(none, 40)

    def check_tellers(self, lore, counting, upto):
        """The tellers of a bar, and those without whom some house is."""
        k = lore.base()
        sayings = [saying for _, saying in counting]
        told, freeing = lore.barred_by(upto=upto), lore.freed_by(upto=upto)
        if reaches(k, sayings) is not None:
            self.assertIsNone(told)
            self.assertIsNone(freeing)
            return
        self.assertEqual(told, sorted(set(told)))
        self.assertEqual(told, sorted({counting[place][0] for place in bar_of(k, sayings)}))
        self.assertIsNone(reaches(k, [saying for teller, saying in counting if teller in told]))
        by_rule = []
        for left in TELLERS:
            if reaches(k, [saying for teller, saying in counting if teller != left]) is not None:
                by_rule.append(left)
        self.assertEqual(freeing, by_rule)

    def test_turns(self):
        turned = 0
        for k, entries in rows_of_entries():
            lore = lore_of(k, entries)
            some, by_rule = True, []
            for moment in sorted(entry[0] for entry in entries):
                counting = counting_by_rule(entries, moment)
                now = reaches(k, [saying for _, saying in counting]) is not None
                if now != some:
                    by_rule.append((moment, now))
                    some = now
            told = lore.turns()
            self.assertEqual(told, by_rule)
            self.assertTrue(all(type(turn) is tuple and type(turn[1]) is bool for turn in told))
            turned += len(told)
        self.assertGreater(turned, 40)

    def test_by_hand(self):
        lore = lore_of(2, [(1, "ann", ("at most", 7, 1)), (2, "bob", ("at least", 7, 2)), (3, "bob", False),
                           (5, "bob", True), (8, "ann", False), (9, "carl", ("at least", 7, 8))])
        self.assertEqual(lore.turns(), [(2, False), (3, True), (5, False), (8, True), (9, False)])
        self.assertEqual(lore.barred_by(upto=2), ["ann", "bob"])
        self.assertEqual(lore.freed_by(upto=2), ["ann", "bob"])
        self.assertIsNone(lore.freed_by(upto=4))
        self.assertEqual(lore.freed_by(), ["carl"])
        self.assertEqual(lore.reaches(upto=1), (6, None))
        self.assertEqual(lore.house(8, upto=1).beginning(), [9])
        self.assertIsNone(lore.house(5, upto=1))
        self.assertEqual(lore.reaches(upto=8), (0, 5))
        self.assertEqual(lore.may_be(7, upto=8), (2, 4))
        self.assertEqual(lore.may_be(7, upto=1), (1, 1))
        lore.sees(20, "carl", ("at least", 1, 2))
        lore.trusts(10, "ann")
        self.assertEqual(lore.freed_by(), [])

    def test_whatever_the_order_and_whatever_is_dropped(self):
        chance = random.Random(93)
        for k, entries in rows_of_entries()[::3]:
            extra = [(10 ** 6 + entry[0], entry[1], entry[2]) for entry in some_entries(chance, 12, [SIGHT])]
            lore, shuffled = lore_of(k, entries), entries + extra
            chance.shuffle(shuffled)
            other = lore_of(k, shuffled)
            for moment, _, _ in extra:
                other.drop(moment)
            for moment, teller, what in entries[:4]:
                other.drop(moment)
                tell(other, moment, teller, what)
            self.assertEqual(other.turns(), lore.turns())
            for upto in uptos(entries):
                for name in ("entries", "sayings", "reaches", "barred_by", "freed_by"):
                    self.assertEqual(getattr(other, name)(upto=upto), getattr(lore, name)(upto=upto))
                self.assertTrue(other.house(9, upto=upto) == lore.house(9, upto=upto))

    def test_the_same_is_told_again(self):
        for k, entries in rows_of_entries()[::5]:
            lore = lore_of(k, entries)
            for name in ("entries", "sayings", "reaches", "barred_by", "turns", "freed_by"):
                self.assertEqual(getattr(lore, name)(), getattr(lore, name)())
            self.assertEqual(len(lore), len(entries))


class NamesTest(unittest.TestCase):
    def test_by_places_and_by_names(self):
        lore = Lore(k=3)
        lore.sees(saying=SIGHT, teller="ann", moment=3)
        lore.leaves(teller="bob", moment=1)
        lore.trusts(teller="bob", moment=2)
        lore.trusts(teller="bob", moment=9)
        lore.drop(moment=9)
        self.assertEqual(lore.entries(upto=None), [(1, "bob", False), (2, "bob", True), (3, "ann", SIGHT)])
        self.assertTrue(lore.house(reach=4, upto=3) == lore.house(4))
        self.assertEqual(lore.may_be(place=4, upto=3), lore.may_be(4))
        self.assertEqual(lore.may_be(4, upto=None), lore.may_be(4))

    def test_behind_the_star_by_names_alone(self):
        lore = Lore(3)
        for call in (lore.entries, lore.sayings, lore.reaches, lore.barred_by, lore.freed_by):
            with self.assertRaises(TypeError):
                call(3)
        for call in (lore.house, lore.may_be):
            with self.assertRaises(TypeError):
                call(3, 3)

    def test_the_class_itself_has_each_method(self):
        for name in ("sees leaves trusts drop entries __len__ base sayings reaches house may_be barred_by turns "
                     "freed_by __init__").split():
            self.assertIn(name, vars(Lore))


if __name__ == "__main__":
    unittest.main()
