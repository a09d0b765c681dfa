"""Where two houses meet ([20], and what [2], [3], [4] say of it)."""

import random
import sys
import unittest

from askback.errors import OtherK
from askback.house import House
from askback.meets import more_many, same_from, same_last, same_many, same_nth
from askback.signs import signs_of
from tests.plain import FAR, GREAT, far_numbers, said_by_rule

UPTO = 300
END = 10 ** 200

# Pairs of beginnings: alike, near, of one reach, of reaches that differ by one, by more.
PAIRS = [
    ([1], [1]), ([1], [2]), ([2], [1]), ([5], [2]), ([1], [40]), ([40], [1]), ([7], [8]), ([8], [7]),
    ([1, 1], [1, 1]), ([3, 1], [1, 3]), ([1, 4], [4, 1]), ([2, 7], [2, 8]), ([2, 8], [2, 7]), ([1, 9], [3, 3]),
    ([9, 1], [1, 1]), ([1, 1], [1, 2]), ([1, 2], [1, 1]), ([20, 1], [1, 22]), ([1, 22], [20, 1]), ([3, 3], [6, 3]),
    ([2, 1, 3], [1, 3, 2]), ([1, 1, 9], [9, 1, 1]), ([1, 1, 1], [1, 1, 2]), ([1, 5, 1], [1, 5, 3]),
    ([1, 2, 1, 1], [1, 1, 1, 2]), ([4, 1, 1, 2], [1, 1, 1, 1]), ([1] * 6, [2] * 6), ([1] * 9, [1] * 8 + [2]),
]

MOVES = [0, 1, 2, 3, 5, 8, 21, 60]


# The asks that were found to take longest, what they are told, and how many rows of code they may go through:
# less than a third of those they went through when each round was gone by itself.
LONG_ASKS = [
    (lambda: same_from(House(2, [1]), House(2, [1]), 10 ** 190, by=600),
     int("1000000000372259632052516551820394934643232018833789841355098991255001584473271887084189039383785981"
         "7019105416283789191952131972038706101444804846143386695597451349185455004175517585156078998"), 60000),
    (lambda: same_from(House(4, [1] * 3), House(4, [1] * 3), 10 ** 190, by=300),
     int("1000000000095625260793783687919567743730487942099626759205603197921957762493895032989995162957138845"
         "1054369553424990600877931445917109334061196995938128779041375373394080882973249912140289056"), 40000),
    (lambda: same_from(House(30, [1] * 29), House(30, [1] * 29), 10 ** 199, by=130),
     int("1000000063938959657746955731871889193287750464652587063545274096894223103448275862068965517241379310"
         "3448275862068965517241379310344827586206896551724137931034482758620689655172413793103448275862068834"), 30000),
    (lambda: same_nth(House(2, [1]), House(2, [2]), 10 ** 18, by=300),
     2350891689695508441598097089620775037335673920708149101, 20000),
    (lambda: same_nth(House(30, [10 ** 59] * 29), House(30, [1] * 28 + [9]), 10 ** 18, by=300), None, 20000),
    (lambda: same_many(House(30, [1] * 29), House(30, [1] * 29), 10 ** 200 - 1), 10 ** 200 - 2, 20000),
]

# Of these ks so many exponents are gone one by one.
EXPONENTS = {2: 50, 3: 32, 4: 24, 10: 12, 30: 9}


def pairs():
    """Pairs of houses of one k, with the moves and what both say, the second one moved."""
    chance = random.Random(201)
    for one, other in PAIRS:
        k = len(one) + 1
        said, other_said = said_by_rule(k, one, UPTO), said_by_rule(k, other, UPTO + max(MOVES))
        for by in (0, chance.choice(MOVES[1:4]), chance.choice(MOVES[4:])):
            yield House(k, one), House(k, other), by, said, other_said[by:]


def far_pairs():
    """Pairs of houses that are alike, near and not, and moves, to look far in."""
    chance = random.Random(202)
    rows = []
    for k, beginning in GREAT:
        one = House(k, beginning)
        nears = [list(beginning) for _ in range(4)]
        nears[1][-1] += 1
        nears[2][0] += 2
        nears[3] = nears[3][::-1]
        for near in nears + [[1] * (k - 1), [chance.randrange(1, 10 ** 30) for _ in range(k - 1)]]:
            for by in (0, 1, chance.randrange(2, 400), chance.randrange(10 ** 60), FAR):
                rows.append((one, House(k, near), by))
                rows.append((House(k, near), one, by))
    return rows


def near_pairs():
    """Pairs of houses whose reaches differ by little or not at all, and moves that come near the gaps between them."""
    chance = random.Random(205)
    for k in EXPONENTS:
        for rise in (0, 0, 1, -1, 2, -2, 3, -5):
            for by in (0, chance.randrange(1, 9), chance.randrange(9, 45)):
                one = [chance.choice([1, 2, 5, 20]) for _ in range(k - 1)]
                other = one[::-1]
                other[chance.randrange(k - 1)] += abs(rise)
                if rise < 0:
                    one, other = other, one
                yield House(k, one), House(k, other), by


def counts_by_rounds(one, other, by, exponents):
    """(number, met, more) for each exponent: of the places that say less than the number, which is k to it.

    Places are counted round by round, the numbers behind a round's first one by how often k divides them.
    """
    k = one.base()
    met = more = 0
    for exponent in range(exponents):
        for sign in range(1, k):
            number = sign * k ** exponent
            first, last = one.first_place(number), one.last_place(number)
            other_first, other_last = other.first_place(number) - by, other.last_place(number) - by
            met += max(0, min(last, other_last) - max(first, other_first) + 1)
            more += max(0, min(last, other_first - 1) - first + 1)
            gap = other_last - last
            for noughts in range(exponent):
                numbers = k ** (exponent - noughts) - k ** (exponent - noughts - 1)
                met += numbers * max(0, noughts + 1 - abs(gap))
                more += numbers * min(noughts + 1, max(0, gap))
        yield k ** (exponent + 1), met, more


def rows_gone(ask):
    """How many rows of code are gone through while it is asked."""
    rows = 0

    def look(frame, event, _):
        nonlocal rows
        rows += event == "line"
        return look

    before = sys.gettrace()
    sys.settrace(look)
    try:
        ask()
    finally:
        sys.settrace(before)
    return rows


class SameTest(unittest.TestCase):
    def test_how_many_against_both_rows(self):
        for one, other, by, said, moved in pairs():
            same = more = 0
            for below in range(UPTO + 1):
                if below > 1:
                    same += said[below - 1] == moved[below - 1]
                    more += said[below - 1] > moved[below - 1]
                self.assertEqual(same_many(one, other, below, by=by), same)
                self.assertEqual(more_many(one, other, below, by=by), more)

    def test_which_against_both_rows(self):
        for one, other, by, said, moved in pairs():
            met = [place for place in range(1, UPTO + 1) if said[place] == moved[place]]
            for at, place in list(enumerate(met))[::2]:
                self.assertEqual(same_nth(one, other, at, by=by), place)
            behind = same_nth(one, other, len(met), by=by)
            self.assertTrue(behind is None or behind > UPTO)
            for place in range(0, UPTO + 1, 5):
                least = next((one_met for one_met in met if one_met >= place), behind)
                self.assertEqual(same_from(one, other, place, by=by), least)

    def test_no_move_where_it_is_left_out(self):
        for one, other, by, _, _ in list(pairs())[::3]:
            for place in (0, 1, 17, 10 ** 30):
                self.assertEqual(same_many(one, other, place), same_many(one, other, place, by=0))
                self.assertEqual(more_many(one, other, place), more_many(one, other, place, by=0))
                self.assertEqual(same_nth(one, other, place), same_nth(one, other, place, by=0))
                self.assertEqual(same_from(one, other, place), same_from(one, other, place, by=0))
            self.assertEqual(same_last(one, other), same_last(one, other, by=0))

    def test_of_one_house_moved_by_nothing_all_meet(self):
        for k, beginning in GREAT:
            one, other = House(k, beginning), House(k, beginning)
            for place in (1, 2, 999) + tuple(far_numbers()[-4:]):
                self.assertEqual(same_many(one, other, place), place - 1)
                self.assertEqual(more_many(one, other, place), 0)
                self.assertEqual(same_nth(one, other, place - 1), place)
                self.assertEqual(same_from(one, other, place), place)
            self.assertIsNone(same_nth(one, other, FAR))
            self.assertEqual(same_nth(one, other, FAR - 1), FAR)
            self.assertIsNone(same_from(one, other, END))
            self.assertIsNone(same_last(one, other))


class FarTest(unittest.TestCase):
    def test_those_that_meet_and_where_either_says_more_are_all(self):
        for one, other, by in far_pairs():
            if by == 0:
                for below in far_numbers()[-3:]:
                    self.assertEqual(same_many(one, other, below) + more_many(one, other, below)
                                     + more_many(other, one, below), below - 1)
                    self.assertEqual(same_many(one, other, below), same_many(other, one, below))

    def test_one_place_more(self):
        chance = random.Random(203)
        for one, other, by in far_pairs()[::3]:
            for place in (chance.randrange(1, 10 ** 9), chance.randrange(1, 10 ** 99), chance.randrange(1, FAR)):
                number, moved = one.said(place), other.said(place + by)
                same = same_many(one, other, place + 1, by=by) - same_many(one, other, place, by=by)
                more = more_many(one, other, place + 1, by=by) - more_many(one, other, place, by=by)
                self.assertEqual((same, more), (int(number == moved), int(number > moved)))

    def test_the_nth_and_the_next(self):
        chance = random.Random(204)
        found = 0
        for one, other, by in far_pairs()[::17]:
            many = same_many(one, other, END, by=by)
            self.assertIsNone(same_nth(one, other, many, by=by))
            self.assertIsNone(same_nth(one, other, many + chance.randrange(10 ** 50), by=by))
            if not many:
                self.assertIsNone(same_from(one, other, 1, by=by))
                continue
            for at in {0, many - 1, many // 2, many // 7, chance.randrange(many)}:
                place = same_nth(one, other, at, by=by)
                found += 1
                self.assertTrue(1 <= place < END)
                self.assertEqual(one.said(place), other.said(place + by))
                self.assertEqual(same_many(one, other, place, by=by), at)
                self.assertEqual(same_from(one, other, place, by=by), place)
                behind = same_from(one, other, place + 1, by=by)
                self.assertEqual(behind, same_nth(one, other, at + 1, by=by))
                self.assertIs(behind is None, at == many - 1)
        self.assertGreater(found, 100)

    def test_below_bounds_that_are_further_than_what_is_looked_for(self):
        one, other = House(3, [1, 1]), House(3, [1, 2])
        self.assertGreater(same_many(one, other, 10 ** 260), same_many(one, other, END))
        self.assertIsNone(same_from(one, other, 10 ** 260))
        self.assertIsNone(same_nth(one, other, same_many(one, other, END)))

    def test_the_edge_of_what_is_looked_for(self):
        # Of k 2 with a reach far off all say 1 to the end.
        one = House(2, [FAR])
        self.assertEqual(same_nth(one, House(2, [10 ** 300]), FAR - 1), FAR)
        self.assertIsNone(same_nth(one, House(2, [10 ** 300]), FAR))
        self.assertEqual(same_from(one, House(2, [10 ** 300]), FAR), FAR)
        self.assertIsNone(same_from(House(2, [END]), House(2, [END + 1]), END))


class LongTest(unittest.TestCase):
    def test_the_asks_that_took_longest(self):
        for ask, told, _ in LONG_ASKS:
            self.assertEqual(ask(), told)

    def test_they_go_through_few_rows(self):
        for ask, _, most in LONG_ASKS:
            self.assertLess(rows_gone(ask), most)

    def test_what_they_are_told_is_so(self):
        for k, place, by in ((2, 10 ** 190, 600), (4, 10 ** 190, 300), (30, 10 ** 199, 130)):
            one, other = House(k, [1] * (k - 1)), House(k, [1] * (k - 1))
            found = same_from(one, other, place, by=by)
            self.assertEqual(one.said(found), other.said(found + by))
            self.assertNotEqual(one.said(found - 1), other.said(found - 1 + by))
            many = same_many(one, other, place, by=by)
            self.assertEqual(same_many(one, other, found, by=by), many)
            self.assertEqual(same_many(one, other, found + 1, by=by), many + 1)
            self.assertEqual(same_nth(one, other, many, by=by), found)

    def test_some_that_meet_just_below_the_end(self):
        # Where the gap is so wide none but first numbers meet, and those of the greatest exponents alone.
        for k, many, by, exponents in ((30, 10, 140, range(131, 136)), (10, 9, 205, range(197, 200)),
                                       (7, 5, 240, range(236, 237)), (2, 4, 666, range(663, 664))):
            one, other = House(k, [many] * (k - 1)), House(k, [many] * (k - 1))
            told = []
            place = same_from(one, other, 1, by=by)
            while place is not None:
                told.append(place)
                place = same_from(one, other, place + 1, by=by)
            firsts = [sign * k ** exponent for exponent in exponents for sign in range(1, k)]
            places = [one.first_place(number) + at for number in firsts for at in range(one.times(number) - by)]
            self.assertEqual(told, [place for place in places if place < END])
            self.assertTrue(told)
            self.assertEqual(told, [same_nth(one, other, at, by=by) for at in range(len(told))])
            self.assertIsNone(same_nth(one, other, len(told), by=by))

    def test_counts_against_going_from_round_to_round(self):
        for one, other, by in near_pairs():
            for number, met, more in counts_by_rounds(one, other, by, EXPONENTS[one.base()]):
                below = one.first_place(number)
                self.assertEqual(same_many(one, other, below, by=by), met)
                self.assertEqual(more_many(one, other, below, by=by), more)

    def test_the_next_and_the_nth_near_where_rounds_begin(self):
        chance = random.Random(206)
        for one, other, by in list(near_pairs())[::2]:
            k = one.base()
            for _ in range(4):
                number = chance.randrange(1, k) * k ** chance.randrange(2 * EXPONENTS[k])
                for place in {one.first_place(number), one.last_place(number) + chance.randrange(-2, 3)}:
                    place = max(place, 1)
                    many = same_many(one, other, place, by=by)
                    found = same_from(one, other, place, by=by)
                    self.assertEqual(same_nth(one, other, many, by=by), found)
                    if found is None:
                        self.assertEqual(same_many(one, other, END, by=by), many)
                        continue
                    self.assertEqual(one.said(found), other.said(found + by))
                    self.assertEqual(same_many(one, other, found, by=by), many)


class LastTest(unittest.TestCase):
    def test_none_meets(self):
        # The other one has said 1 out where the first one begins, and is ahead of it from then on.
        self.assertEqual(same_last(House(2, [1]), House(2, [1]), by=10 ** 9), None)
        self.assertEqual(same_last(House(2, [9]), House(2, [1]), by=5), (0, 0))
        self.assertEqual(same_many(House(2, [9]), House(2, [1]), END, by=5), 0)
        self.assertEqual(same_last(House(3, [50, 50]), House(3, [1, 1]), by=FAR), (0, 0))

    def test_against_both_rows(self):
        for one, other, by, said, moved in pairs():
            last = same_last(one, other, by=by)
            met = [place for place in range(1, UPTO + 1) if said[place] == moved[place]]
            if last == (0, 0):
                self.assertEqual((met, same_many(one, other, END, by=by)), ([], 0))
            elif last is not None:
                many = same_many(one, other, END, by=by)
                place = same_nth(one, other, many - 1, by=by)
                signs = signs_of(one.said(place), one.base())
                self.assertEqual(last, (len(signs), signs[0]))
                self.assertIs(type(last), tuple)
            else:
                self.assertIsNotNone(same_from(one, other, 10 ** 190, by=by))

    def test_without_end_of_one_reach_and_of_reaches_near(self):
        self.assertIsNone(same_last(House(3, [3, 1]), House(3, [1, 3])))
        self.assertIsNone(same_last(House(3, [3, 1]), House(3, [1, 3]), by=10 ** 70))
        self.assertIsNone(same_last(House(3, [3, 1]), House(3, [1, 4])))
        self.assertIsNone(same_last(House(3, [3, 1]), House(3, [1, 4]), by=FAR))
        self.assertIsNotNone(same_last(House(3, [3, 1]), House(3, [1, 5])))
        # Where the other reach is lesser by one, no more than one place too many is moved.
        for many in (2, 3, 9, 10 ** 50):
            one, other = House(2, [many]), House(2, [many - 1])
            self.assertIsNone(same_last(one, other))
            self.assertIsNone(same_last(one, other, by=many - 2))
            self.assertIsNotNone(same_from(one, other, 10 ** 190, by=many - 2))
            self.assertEqual(same_last(one, other, by=many - 1), (0, 0))
            self.assertIsNone(same_from(one, other, 1, by=many - 1))

    def test_far_lasts(self):
        """Numbers of so many signs that no place of them can be looked at: gone by what is said by signs."""
        seen = set()
        for one, other, by in far_pairs():
            last = same_last(one, other, by=by)
            seen.add("none" if last is None else "no" if last == (0, 0) else "far" if last[0] > 10 ** 20 else "near")
            if last is None or last == (0, 0):
                continue
            many, sign = last
            self.assertTrue(many >= 1 and 1 <= sign < one.base())
            if many > 600:
                continue
            base = one.base()
            self.assertTrue(self.meets_in(one, other, by, sign * base ** (many - 1), base ** (many - 1)))
            for more in (sign + 1, sign + 2, base, 2 * base, base ** 2, base ** 3 * 2):
                if more % base:
                    exponent = len(signs_of(more, base)) - 1
                    first = signs_of(more, base)[0] * base ** (many - 1 + exponent)
                    if first > sign * base ** (many - 1):
                        self.assertFalse(self.meets_in(one, other, by, first, base ** (many - 1 + exponent)))
        self.assertEqual(seen, {"none", "no", "far", "near"})

    def meets_in(self, one, other, by, first, power):
        """Whether places that say a number from the first one up to the power behind it meet."""
        start, end = one.first_place(first), one.last_place(first + power - 1)
        return same_many(one, other, end + 1, by=by) > same_many(one, other, start, by=by)

    def test_exponents_that_are_great(self):
        # The other one's reach is greater by 2, and it is moved by 2 * m: both are even where the exponent is m.
        for move in (3, 40, 10 ** 30, FAR // 2):
            many, sign = same_last(House(2, [1]), House(2, [3]), by=2 * move)
            self.assertEqual(sign, 1)
            self.assertGreaterEqual(many, move)
            self.assertLessEqual(many, 3 * move)
        said, moved = said_by_rule(2, [1], 9000), said_by_rule(2, [3], 9010)[10:]
        last = max(place for place in range(1, 9001) if said[place] == moved[place])
        signs = signs_of(said[last], 2)
        self.assertEqual(same_last(House(2, [1]), House(2, [3]), by=10), (len(signs), 1))
        self.assertLess(last, 5000)


class RefusalTest(unittest.TestCase):
    def test_other_k(self):
        for k, other_k in ((2, 3), (3, 2), (30, 29), (4, 30)):
            one, other = House(k, [2] * (k - 1)), House(other_k, [2] * (other_k - 1))
            for call in (lambda: same_many(one, other, 9), lambda: more_many(one, other, 9, by=3),
                         lambda: same_nth(one, other, 0), lambda: same_from(one, other, 1, by=1),
                         lambda: same_last(one, other), lambda: same_many(one, other, 0),
                         lambda: more_many(one, other, 1)):
                with self.assertRaises(OtherK) as caught:
                    call()
                self.assertEqual(caught.exception.k, other_k)

    def test_by_names(self):
        one, other = House(3, (2, 1)), House(3, (1, 3))
        self.assertEqual(same_many(by=2, below=50, other=other, one=one), same_many(one, other, 50, by=2))
        self.assertEqual(more_many(by=2, below=50, other=other, one=one), more_many(one, other, 50, by=2))
        self.assertEqual(same_nth(by=2, place=5, other=other, one=one), same_nth(one, other, 5, by=2))
        self.assertEqual(same_from(by=2, place=5, other=other, one=one), same_from(one, other, 5, by=2))
        self.assertEqual(same_last(by=2, other=other, one=one), same_last(one, other, by=2))
        for call in (lambda: same_many(one, other, 50, 2), lambda: same_last(one, other, 2),
                     lambda: more_many(one, other, 50, 2), lambda: same_nth(one, other, 5, 2)):
            self.assertRaises(TypeError, call)


if __name__ == "__main__":
    unittest.main()
