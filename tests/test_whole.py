"""What DOC.md promises over the whole program: [1], [2], [3], [4] and the refusals of [21]."""

import copy
import random
import unittest

from askback import errors
from askback.apart import greater, less_at, lesser, parts
from askback.asking import asked, asked_often, chain, hanging, last_with, leads, led_again, led_from, nearest
from askback.bars import bar_of, shows_bar, why_greatest, why_least
from askback.cores import core, pins
from askback.counted import how_many, nth_house
from askback.desk import Desk
from askback.fitting import marks_by, shows_marks
from askback.follows import follows, may_be, shows_follows
from askback.house import House
from askback.lore import Lore
from askback.marks import mark_at, mark_paper, shows_mark, whence
from askback.meets import more_many, same_from, same_last, same_many, same_nth
from askback.mending import least_mend, mend, shows_mend
from askback.often import how_many_said, least_place, nth_said, sum_upto
from askback.papers import paper_of, shows_paper
from askback.sightings import greatest_house, keeps, least_house, reaches
from askback.signs import exponent_of, first_sign, heap_of, noughts_of, signs_of
from askback.texts import read_house, read_lore, read_saying, show_house, show_lore, show_saying
from askback.which import blame, which
from tests.plain import (
    FAR,
    NO_KS,
    NO_LISTS,
    NO_SAYINGS,
    AllHouses,
    far_sayings,
    great_houses,
    is_as_told,
    refuses_no_k_then_no_sayings,
    refuses_saying,
)
from tests.test_errors import CLASSES

HOUSE = House(3, [2, 3])
OTHER = House(3, [1, 5])
SAYINGS = [("at most", 9, 4), ("at least", 40, 14), ("at least", 9, 2)]
NONE_KEEPS = SAYINGS + [("at most", 14, 2)]
MARKS = [10, 7]
TOLD = [(1, 10), (30, 66)]

# Each function of the interface: its names in their order, with what is handed in; those behind a star last.
CALLS = [
    (signs_of, {"number": 47, "base": 3}, {}),
    (exponent_of, {"number": 47, "base": 3}, {}),
    (first_sign, {"number": 47, "base": 3}, {}),
    (noughts_of, {"number": 54, "base": 3}, {}),
    (heap_of, {"number": 47, "base": 3}, {}),
    (House, {"k": 3, "beginning": [2, 3]}, {}),
    (HOUSE.said, {"place": 9}, {}),
    (HOUSE.times, {"number": 9}, {}),
    (HOUSE.first_place, {"number": 9}, {}),
    (HOUSE.last_place, {"number": 9}, {}),
    (how_many_said, {"house": HOUSE, "times": 2, "upto": 20}, {}),
    (nth_said, {"house": HOUSE, "times": 2, "place": 5}, {}),
    (sum_upto, {"house": HOUSE, "place": 6}, {}),
    (least_place, {"house": HOUSE, "total": 9}, {}),
    (asked, {"house": HOUSE, "place": 7}, {}),
    (leads, {"house": HOUSE, "place": 12}, {}),
    (chain, {"house": HOUSE, "place": 30}, {}),
    (asked_often, {"house": HOUSE, "place": 4, "below": 19}, {}),
    (led_from, {"house": HOUSE, "place": 6, "steps": 2}, {}),
    (last_with, {"house": HOUSE, "steps": 2}, {}),
    (led_again, {"house": HOUSE, "place": 6}, {}),
    (hanging, {"house": HOUSE, "place": 6, "below": 30}, {}),
    (nearest, {"house": HOUSE, "one": 35, "other": 16}, {}),
    (paper_of, {"house": HOUSE, "place": 35}, {}),
    (shows_paper, {"house": HOUSE, "place": 35, "paper": paper_of(HOUSE, 35)}, {}),
    (mark_at, {"house": HOUSE, "marks": MARKS, "place": 30}, {}),
    (whence, {"house": HOUSE, "place": 30}, {}),
    (mark_paper, {"house": HOUSE, "marks": MARKS, "place": 30}, {}),
    (shows_mark, {"house": HOUSE, "marks": MARKS, "place": 30, "paper": mark_paper(HOUSE, MARKS, 30)}, {}),
    (marks_by, {"house": HOUSE, "told": TOLD}, {}),
    (shows_marks, {"house": HOUSE, "told": TOLD, "thing": marks_by(HOUSE, TOLD)}, {}),
    (parts, {"one": HOUSE, "other": OTHER}, {}),
    (less_at, {"one": HOUSE, "other": OTHER}, {}),
    (lesser, {"one": HOUSE, "other": OTHER}, {}),
    (greater, {"one": HOUSE, "other": OTHER}, {}),
    (same_many, {"one": HOUSE, "other": OTHER, "below": 50}, {"by": 2}),
    (more_many, {"one": HOUSE, "other": OTHER, "below": 50}, {"by": 2}),
    (same_nth, {"one": HOUSE, "other": OTHER, "place": 5}, {"by": 2}),
    (same_from, {"one": HOUSE, "other": OTHER, "place": 5}, {"by": 2}),
    (same_last, {"one": HOUSE, "other": OTHER}, {"by": 2}),
    (keeps, {"house": HOUSE, "saying": SAYINGS[0]}, {}),
    (reaches, {"k": 3, "sayings": SAYINGS}, {}),
    (least_house, {"k": 3, "sayings": SAYINGS, "reach": 4}, {}),
    (greatest_house, {"k": 3, "sayings": SAYINGS, "reach": 4}, {}),
    (bar_of, {"k": 3, "sayings": SAYINGS}, {"reach": 11}),
    (shows_bar, {"k": 3, "sayings": SAYINGS, "thing": [1]}, {"reach": 11}),
    (why_least, {"k": 3, "sayings": SAYINGS}, {}),
    (why_greatest, {"k": 3, "sayings": SAYINGS}, {}),
    (follows, {"k": 3, "sayings": SAYINGS, "saying": ("at most", 8, 4)}, {}),
    (shows_follows, {"k": 3, "sayings": SAYINGS, "saying": ("at most", 8, 4), "paper": ("follows", [0, 3])}, {}),
    (may_be, {"k": 3, "sayings": SAYINGS, "place": 20}, {"reach": 2}),
    (how_many, {"k": 3, "sayings": SAYINGS, "reach": 4}, {}),
    (nth_house, {"k": 3, "sayings": SAYINGS, "reach": 4, "place": 1}, {}),
    (which, {"sayings": SAYINGS, "most": 7}, {}),
    (blame, {"k": 3, "sayings": NONE_KEEPS}, {}),
    (core, {"k": 3, "sayings": SAYINGS}, {}),
    (pins, {"house": HOUSE}, {}),
    (mend, {"k": 3, "sayings": NONE_KEEPS, "reach": 3}, {"prices": [5, 5, 1, 2]}),
    (shows_mend, {"k": 3, "sayings": NONE_KEEPS, "reach": 3, "thing": ([3], [([3], 2)])}, {"prices": [5, 5, 1, 2]}),
    (least_mend, {"k": 3, "sayings": NONE_KEEPS}, {"prices": [5, 5, 1, 2]}),
    (show_house, {"house": HOUSE}, {}),
    (show_saying, {"saying": SAYINGS[0]}, {}),
    (read_house, {"text": "house 3 by 2 3"}, {}),
    (read_saying, {"text": "9 at most 4"}, {}),
]

# All that takes a k and sayings, as calls of (k, sayings).
OF_K_AND_SAYINGS = [
    reaches,
    lambda k, sayings: least_house(k, sayings, 3),
    lambda k, sayings: greatest_house(k, sayings, 3),
    bar_of,
    lambda k, sayings: bar_of(k, sayings, reach=3),
    lambda k, sayings: shows_bar(k, sayings, None),
    lambda k, sayings: shows_bar(k, sayings, [0], reach=3),
    why_least,
    why_greatest,
    lambda k, sayings: follows(k, sayings, ("at most", 9, 4)),
    lambda k, sayings: shows_follows(k, sayings, ("at most", 9, 4), None),
    lambda k, sayings: may_be(k, sayings, 9),
    lambda k, sayings: may_be(k, sayings, 9, reach=3),
    lambda k, sayings: how_many(k, sayings, 3),
    lambda k, sayings: nth_house(k, sayings, 3, 10 ** 90),
    blame,
    core,
    lambda k, sayings: mend(k, sayings, 3),
    lambda k, sayings: shows_mend(k, sayings, 3, None),
    least_mend,
]


def lore_told():
    lore = Lore(3)
    lore.sees(1, "ann", ("at most", 9, 4))
    lore.sees(2, "bob", ("at most", 14, 2))
    lore.sees(5, "carl", ("at least", 40, 14))
    return lore


class NamesTest(unittest.TestCase):
    def test_by_names_in_another_order_as_by_places(self):
        for call, by_place, by_name in CALLS:
            told = call(*by_place.values(), **by_name)
            names = {**by_name, **dict(list(by_place.items())[::-1])}
            self.assertEqual(call(**names), told, call)
            if by_name:
                self.assertRaises(TypeError, call, *by_place.values(), *by_name.values())
            # Nothing done between, the same is told again.
            self.assertEqual(call(*by_place.values(), **by_name), told, call)

    def test_lists_as_tuples_and_nothing_changed(self):
        for call, by_place, by_name in CALLS:
            held = copy.deepcopy([part for part in by_place.values() if not isinstance(part, House)])
            told = call(*by_place.values(), **by_name)
            names = {**by_place, **by_name}
            as_tuples = {name: tuple(part) if type(part) is list else part for name, part in names.items()}
            self.assertEqual(call(**as_tuples), told, call)
            self.assertEqual([part for part in by_place.values() if not isinstance(part, House)], held)

    def test_what_is_told_is_the_askers_own(self):
        for call, by_place, by_name in CALLS:
            told = call(*by_place.values(), **by_name)
            lists = [part for part in (told if type(told) is tuple else [told]) if type(part) is list]
            first = copy.deepcopy(told) if lists else None
            for part in lists:
                part.append("mine")
            if lists:
                self.assertEqual(call(*by_place.values(), **by_name), first, call)

    def test_kinds_of_what_is_told(self):
        for call, by_place, by_name in CALLS:
            told = call(*by_place.values(), **by_name)
            parts_told = told if type(told) is tuple else (told,)
            self.assertTrue(all(is_as_told(part) or type(part) is House for part in parts_told), call)

    def test_methods_of_a_lore(self):
        one, other = Lore(3), Lore(k=3)
        one.sees(1, "ann", ("at most", 9, 4))
        other.sees(saying=("at most", 9, 4), teller="ann", moment=1)
        one.leaves(2, "bob")
        other.leaves(teller="bob", moment=2)
        one.trusts(3, "bob")
        other.trusts(teller="bob", moment=3)
        one.leaves(4, "ann")
        other.leaves(teller="ann", moment=4)
        one.drop(4)
        other.drop(moment=4)
        self.assertEqual(one.entries(), other.entries(upto=None))
        self.assertEqual(one.house(5, upto=3), other.house(upto=3, reach=5))
        self.assertEqual(one.may_be(9, upto=3), other.may_be(upto=3, place=9))
        for name in ("entries", "sayings", "reaches", "barred_by", "freed_by"):
            self.assertEqual(getattr(one, name)(upto=3), getattr(other, name)(upto=3))
            self.assertEqual(getattr(one, name)(), getattr(other, name)(upto=None))
            self.assertRaises(TypeError, getattr(one, name), 3)
        self.assertEqual((len(one), one.base(), one.turns()), (len(other), other.base(), other.turns()))
        self.assertEqual(show_lore(one), show_lore(lore=other))
        self.assertEqual(read_lore(text=show_lore(one)).entries(), one.entries())

    def test_methods_of_a_desk(self):
        self.assertEqual(Desk().say(row="house ann 3 by 2 3"), Desk().say("house ann 3 by 2 3"))


class RefusalTest(unittest.TestCase):
    def test_each_of_its_own_class_alone(self):
        lore, desk = lore_told(), Desk()
        rows = [
            ("BadHouse", lambda: House(3, [1]), "beginning"),
            ("BadMoment", lambda: lore.leaves(-1, "ann"), -1),
            ("BadSaying", lambda: reaches(3, [SAYINGS[0], None]), 1),
            ("BadTeller", lambda: lore.leaves(9, "Ann"), "Ann"),
            ("NoAsk", lambda: desk.say("say"), "say"),
            ("Unread", lambda: read_house("house"), "house"),
            ("NoEntry", lambda: lore.drop(9), 9),
            ("NoName", lambda: desk.say("said ann 1"), "ann"),
            ("SameMoment", lambda: lore.leaves(1, "ann"), 1),
            ("BadMark", lambda: marks_by(HOUSE, [(1, 1), (0, 1)]), 1),
            ("Beyond", lambda: nth_house(3, [], 0, 1), 1),
            ("NoBar", lambda: blame(3, []), None),
            ("NoHouse", lambda: core(3, NONE_KEEPS), None),
            ("OtherK", lambda: less_at(HOUSE, House(2, [1])), 2),
        ]
        self.assertEqual(sorted(name for name, _, _ in rows), sorted(CLASSES))
        for name, call, worth in rows:
            above, field = CLASSES[name]
            with self.assertRaises(above) as caught:
                call()
            raised = caught.exception
            self.assertIs(type(raised), getattr(errors, name))
            self.assertEqual(type(raised).__bases__, (above,))
            for other in CLASSES:
                self.assertIs(isinstance(raised, getattr(errors, other)), other == name)
            if field is not None:
                self.assertEqual(getattr(raised, field), worth)
                self.assertIs(type(getattr(raised, field)), type(worth))

    def test_k_then_sayings_in_all_that_takes_both(self):
        for call in OF_K_AND_SAYINGS:
            refuses_no_k_then_no_sayings(self, call)

    def test_sayings_where_no_k_is_handed_in(self):
        for wrong in NO_LISTS:
            refuses_saying(self, 0, lambda _, sayings: which(sayings, 9), wrong)
        for wrong in NO_SAYINGS:
            refuses_saying(self, 1, lambda _, sayings: which(sayings, 9), [SAYINGS[0], wrong, wrong])
            for call in (lambda _, saying: keeps(HOUSE, saying), lambda _, saying: show_saying(saying),
                         lambda _, saying: Lore(3).sees(1, "ann", saying)):
                refuses_saying(self, 0, call, wrong)

    def test_a_saying_by_itself_behind_a_list(self):
        for wrong in NO_SAYINGS:
            for sayings in ([], SAYINGS, NONE_KEEPS):
                refuses_saying(self, len(sayings), lambda k, saying: follows(k, sayings, saying), wrong)
                refuses_saying(self, len(sayings), lambda k, saying: shows_follows(k, sayings, saying, None), wrong)
            refuses_saying(self, 0, lambda k, saying: follows(k, [None], saying), wrong)

    def test_no_k_of_a_lore(self):
        for wrong in NO_KS:
            with self.assertRaises(errors.BadHouse) as caught:
                Lore(wrong)
            self.assertEqual(caught.exception.part, "k")


class WholeTest(unittest.TestCase):
    def test_what_is_said_never_falls_and_rises_by_one(self):
        chance = random.Random(41)
        for house in great_houses():
            for place in [chance.randrange(1, 10 ** figures) for figures in (9, 60, 199)]:
                self.assertIn(house.said(place + 1) - house.said(place), (0, 1))
            for _ in range(5):
                number = chance.randrange(1, 10 ** 100)
                self.assertEqual(house.times(number * house.base()), house.times(number) + 1)
                self.assertEqual(house.times(number * house.base() + 1), 1)

    def test_a_house_that_keeps_all_or_a_bar(self):
        chance = random.Random(42)
        for houses in [AllHouses(2, 9), AllHouses(3, 7), AllHouses(4, 5)]:
            for _ in range(100):
                sayings = houses.some_sayings(chance, 7)
                k, ends = houses.k, reaches(houses.k, sayings)
                bar = bar_of(k, sayings)
                self.assertIs(ends is None, bar is not None)
                if ends is None:
                    self.assertLessEqual(len(bar), 4)
                    self.assertTrue(set(blame(k, [sayings[place] for place in bar])) <= set(range(len(bar))))
                    self.assertGreater(least_mend(k, sayings)[1], 0)
                    continue
                for reach in (ends[0] - 1, ends[0], ends[0] if ends[1] is None else ends[1]):
                    if reach >= 0:
                        house = least_house(k, sayings, reach)
                        self.assertIs(house is None, how_many(k, sayings, reach) == 0)
                        self.assertIs(house is None, mend(k, sayings, reach)[0] != [])
                self.assertEqual(least_mend(k, sayings), (ends[0], 0))
                self.assertIn((k, ends[0]), which(sayings, k))
                left = [sayings[place] for place in core(k, sayings)]
                self.assertEqual(reaches(k, left), ends)

    def test_the_order_that_sightings_are_told_in_and_what_is_dropped(self):
        chance = random.Random(43)
        for house in great_houses():
            sayings = far_sayings(house, chance, 12, 10 ** 20) + [("at least", FAR, house.said(FAR) + 1)]
            entries = [(moment, chance.choice(["ann", "bob"]), saying) for moment, saying in enumerate(sayings)]
            lores, desks = [Lore(house.base()), Lore(house.base())], [Desk(), Desk()]
            for lore, desk in zip(lores, desks):
                desk.say(f"lore {house.base()}")
                chance.shuffle(entries)
                for moment, teller, saying in entries:
                    lore.sees(moment, teller, saying)
                    desk.say(f"{moment} {teller} sees {show_saying(saying)}")
                lore.leaves(99, "bob")
                desk.say("99 bob is left")
                lore.drop(99)
                desk.say("drop 99")
            one, other = lores
            self.assertEqual(one.entries(), other.entries())
            self.assertEqual(show_lore(one), show_lore(other))
            for upto in (None, 3, 9, 12):
                self.assertEqual(one.reaches(upto=upto), other.reaches(upto=upto))
                self.assertEqual(one.barred_by(upto=upto), other.barred_by(upto=upto))
                self.assertEqual(one.reaches(upto=upto), reaches(house.base(), one.sayings(upto=upto)))
            for row in ("reaches", "reaches at 7", "bar", "bar at 12"):
                self.assertEqual(desks[0].say(row), desks[1].say(row))


if __name__ == "__main__":
    unittest.main()
