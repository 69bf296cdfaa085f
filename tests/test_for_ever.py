"""[20], F15 to F18: what holds of standing accounts for ever, against going through all days far enough."""

import time
import unittest

from oldestbills.errors import InvalidDay
from oldestbills.errors import InvalidEvery
from oldestbills.errors import InvalidStanding
from oldestbills.standing import always_within
from oldestbills.standing import bill_at
from oldestbills.standing import clear_from
from oldestbills.standing import first_late
from oldestbills.standing import greatest_owed
from oldestbills.standing import least_payment
from oldestbills.standing import owed_on
from oldestbills.standing import pair_of
from oldestbills.standing import paid_off
from oldestbills.standing import payers_between
from oldestbills.standing import payment_at
from oldestbills.standing import rise
from oldestbills.standing import rooms
from oldestbills.standing import unlike_day
from oldestbills.standing import waiting_on
from oldestbills.standing import worst_wait
from tests.helpers import HUGE_DAY
from tests.helpers import HUGE_SUM
from tests.helpers import Numbers
from tests.helpers import ODD_DAYS
from tests.kinds import ODD_EVERIES
from tests.kinds import ODD_STANDINGS
from tests.kinds import STANDING
from tests.kinds import any_standing
from tests.kinds import things_of

AFTERS = (0, 1, 2, 5)
BILLS = (("bill", 3, 2, 5),)
PAYMENTS = (("pay", 0, 4, 7),)
LONG = HUGE_DAY * 10 - 7


def standings(many=240):
    """Standing accounts whose rise is below 0, 0 and above 0; some with one every, some with coprime ones."""
    for seed in range(many):
        everies = ((3,), (2, 3), (2, 3, 5), (1, 2, 4))[seed % 4]
        standing = any_standing(seed, seed // 4 % 5, firsts=1 + seed % 8, everies=everies, most=2 + seed % 5)
        yield standing
        if seed % 3 == 0:
            yield with_rise(standing, seed % 4 - 2)


def with_rise(standing, wanted):
    """The standing account with one more entry that makes its rise this one."""
    period, more = rise(standing)
    return standing + ((("pay" if more > wanted else "bill", 3, period, abs(more - wanted)),) if more != wanted else ())


def turn_of(standing):
    return max([entry[1] for entry in standing], default=0)


class Days:
    """All bills and payments of a standing account of days less than the end, gone through one by one."""

    def __init__(self, standing, end):
        self.end = end
        self.bills = things_of(standing, "bill", end)
        self.payments = things_of(standing, "pay", end)

    def billed(self, day):
        return sum([much for at, index, much in self.bills if at <= day])

    def paid(self, day):
        return sum([much for at, index, much in self.payments if at <= day])

    def waits(self, end):
        """How long each bill of a day less than this waits, None if it is longer than is gone through."""
        rows, total = [], 0
        days = [(day, self.paid(day)) for day in range(min([row[0] for row in self.bills], default=0), self.end)]
        for day, index, much in self.bills:
            total += much
            if day < end:
                found = [at for at, paid in days if paid >= total and at >= day]
                rows.append(found[0] - day if found else None)
        return rows


def is_late(wait, after):
    return wait is None or wait > after


class RoomsTest(unittest.TestCase):
    def test_the_example(self):
        self.assertEqual(rooms(STANDING, 0), [(0, -10), (7, -12), (14, -10), (21, -12)])
        self.assertEqual(rooms(STANDING, 14), [(0, 10), (7, 8), (14, 6), (21, 8)])
        self.assertEqual((rooms((), 3), rooms(PAYMENTS, 3)), ([], []))
        self.assertEqual(rooms(BILLS, LONG), [(3, -5)])
        self.assertEqual(rooms(PAYMENTS + (("bill", 0, 4, 1),), 4 * LONG), [(0, 7 * (LONG + 1) - 1)])

    def test_against_all_days(self):
        for standing in standings():
            end = turn_of(standing) + rise(standing)[0]
            days = Days(standing, end + 6)
            for after in AFTERS:
                told = [(day, days.paid(day + after) - days.billed(day)) for day in sorted({row[0] for row in days.bills})]
                self.assertEqual(rooms(standing, after), [row for row in told if row[0] < end])


class LateTest(unittest.TestCase):
    def test_the_example(self):
        self.assertEqual(first_late(STANDING, 14), 14)
        self.assertIs(always_within(STANDING, 14), False)
        further = STANDING + (("pay", 0, 7, 6),)
        self.assertIs(always_within(further, 3), True)
        self.assertIsNone(first_late(further, 3))
        self.assertIs(always_within(STANDING + (("pay", 0, 7, 5),), 3), False)

    def test_without_entries_bills_or_payments(self):
        for after in (0, 7, LONG):
            self.assertIs(always_within((), after), True)
            self.assertIs(always_within(PAYMENTS, after), True)
            self.assertIs(always_within(BILLS, after), False)
            self.assertEqual((first_late((), after), first_late(PAYMENTS, after), first_late(BILLS, after)), (None, None, 0))

    def test_f16_against_all_days(self):
        answers = []
        for standing in standings():
            period, more = rise(standing)
            for after in AFTERS:
                # A room is less by the rise with each period, so a bill is late by then if one ever is.
                most = max([room for day, room in rooms(standing, after)], default=0)
                end = turn_of(standing) + period * (2 + (max(0, most) // more if more > 0 else 2))
                if end > 150:
                    continue
                waits = Days(standing, end + after + 1).waits(end)
                late = [number for number, wait in enumerate(waits) if is_late(wait, after)]
                self.assertEqual(first_late(standing, after), late[0] if late else None)
                self.assertIs(always_within(standing, after), late == [])
                answers.append((late[0] > 3 if late else None, more > 0))
        for answer in ((None, False), (False, False), (False, True), (True, True)):
            self.assertGreater(answers.count(answer), 5, answer)

    def test_a_first_late_bill_far_behind(self):
        standing = (("pay", 0, 400, HUGE_SUM), ("bill", 0, 400, HUGE_SUM), ("bill", 1, 1, 1), ("pay", -7, 400, 399))
        self.assertEqual(rise(standing), (400, 1))
        number = first_late(standing, 9)
        index, day = bill_at(standing, number)
        self.assertGreater(paid_off(standing, number) - day, 9)
        self.assertLessEqual(paid_off(standing, number - 1) - bill_at(standing, number - 1)[1], 9)
        wide = (("pay", 0, 400, 7 * HUGE_SUM), ("bill", 0, 400, 7 * HUGE_SUM + 1), ("pay", -400, 400, 1), ("bill", 9, 400, 1))
        number = first_late(wide, LONG)
        self.assertGreater(paid_off(wide, number) - bill_at(wide, number)[1], LONG)
        self.assertLessEqual(paid_off(wide, number - 1) - bill_at(wide, number - 1)[1], LONG)

    def test_wrong_arguments(self):
        for after in ODD_DAYS + (-1, -HUGE_DAY):
            for call in (always_within, first_late, rooms):
                self.assertRaises(InvalidDay, call, STANDING, after)
        for standing in ODD_STANDINGS:
            for call in (always_within, first_late, rooms):
                self.assertRaises(InvalidStanding, call, standing, -1)


class WorstWaitTest(unittest.TestCase):
    def test_by_hand(self):
        self.assertEqual(worst_wait(STANDING + (("pay", 0, 7, 6),)), (2, 0))
        for standing in ((), BILLS, PAYMENTS, STANDING):
            self.assertIsNone(worst_wait(standing))
        self.assertEqual(worst_wait(PAYMENTS + (("bill", 0, 4, 7),)), (0, 0))
        self.assertEqual(worst_wait((("bill", 0, 2, 1), ("bill", 0, 2, 1), ("pay", 1, 1, 1))), (2, 1))
        self.assertEqual(worst_wait((("bill", -400, 1, 3), ("pay", 400, 1, 3))), (800, 0))

    def test_against_all_days(self):
        found = []
        for standing in standings():
            period, more = rise(standing)
            told = worst_wait(standing)
            has_both = {entry[0] for entry in standing} == {"bill", "pay"}
            self.assertIs(told is None, not has_both or more > 0)
            if told is not None:
                end = turn_of(standing) + 3 * period
                waits = Days(standing, end + told[0] + 1).waits(end)
                self.assertNotIn(None, waits)
                self.assertEqual(told, (max(waits), waits.index(max(waits))))
                found.append(told)
        self.assertGreater(len([1 for days, number in found if number > 0]), 10)
        self.assertGreater(max(found)[0], 10)


class OwedTest(unittest.TestCase):
    def test_greatest_owed_by_hand(self):
        self.assertIsNone(greatest_owed(STANDING))
        self.assertEqual(greatest_owed(STANDING + (("pay", 0, 7, 6),)), (4, 0))
        self.assertEqual((greatest_owed(()), greatest_owed(PAYMENTS)), ((0, None),) * 2)
        self.assertEqual(greatest_owed((("pay", 0, 3, 5), ("bill", 0, 3, 5))), (0, None))
        self.assertEqual(greatest_owed((("bill", -400, 1, 3), ("pay", 400, 1, 3))), (2400, 399))

    def test_clear_from_by_hand(self):
        self.assertEqual((clear_from(()), clear_from(PAYMENTS), clear_from(BILLS), clear_from(STANDING)), (0, 0, None, None))
        self.assertEqual(clear_from((("pay", -5, 3, 5), ("bill", 0, 3, 5))), -5)
        self.assertIsNone(clear_from((("pay", 1, 3, 5), ("bill", 0, 3, 5))))
        self.assertIsNone(clear_from((("pay", -900, 400, HUGE_SUM), ("bill", 0, 400, HUGE_SUM + 1))))
        far = (("bill", 0, 1, HUGE_SUM), ("pay", 400, 1, HUGE_SUM + 1))
        self.assertEqual(clear_from(far), 399 + 400 * HUGE_SUM)
        self.assertEqual([owed_on(far, clear_from(far) + step) for step in (-1, 0)], [1, 0])

    def test_against_all_days(self):
        found = []
        for standing in standings():
            period, more = rise(standing)
            first = min([entry[1] for entry in standing], default=0)
            if more > 0:
                self.assertIsNone(greatest_owed(standing))
                self.assertIsNone(clear_from(standing))
                continue
            most = greatest_owed(standing)[0]
            days = range(first, turn_of(standing) + period * (3 + (most // -more if more else 0)))
            sums = [owed_on(standing, day) for day in days]
            greatest = max(sums)
            self.assertEqual(greatest_owed(standing), (greatest, days[sums.index(greatest)] if greatest else None))
            last = max([day for day, much in zip(days, sums) if much], default=first - 1)
            if more == 0 and last >= turn_of(standing):
                last = None
            self.assertEqual(clear_from(standing), None if last is None else last + 1)
            found.append((more == 0, "never" if last is None else (last >= turn_of(standing) + period)))
        for answer in ((True, "never"), (True, False), (False, False), (False, True)):
            self.assertGreater(found.count(answer), 5, answer)

    def test_wrong_arguments(self):
        for standing in ODD_STANDINGS:
            for call in (worst_wait, greatest_owed, clear_from):
                self.assertRaises(InvalidStanding, call, standing)


class UnlikeDayTest(unittest.TestCase):
    def test_by_hand(self):
        self.assertIsNone(unlike_day((), ()))
        self.assertIsNone(unlike_day(STANDING, STANDING[::-1]))
        self.assertEqual(unlike_day((), STANDING), 0)
        self.assertEqual(unlike_day(PAYMENTS, ()), 0)
        self.assertIsNone(unlike_day((), (("pay", 3, 5, 2), ("bill", 3, 5, 2))))
        self.assertIsNone(unlike_day((("bill", -4, 3, 2),), (("bill", -4, 6, 2), ("bill", -1, 6, 2))))
        self.assertEqual(unlike_day((("bill", -4, 3, 2),), (("bill", -4, 6, 2), ("bill", -1, 6, 3))), -1)
        self.assertEqual(unlike_day((("bill", 0, 2, 2),), (("bill", 0, 2, 2), ("pay", 399, 400, 1))), 399)
        self.assertEqual(unlike_day((("bill", 0, 2, 1), ("pay", 1, 2, 1)), (("bill", 2, 2, 1), ("pay", 3, 2, 1))), 0)
        halves = (("bill", 0, 4, 2), ("bill", 2, 4, 2), ("pay", 400, 3, 1), ("bill", 400, 3, 1))
        self.assertIsNone(unlike_day((("bill", 0, 2, 2),), halves))

    def test_a_day_at_the_end_of_what_is_to_be_gone_through(self):
        one = (("bill", 0, 7, 3), ("pay", 0, 9, 1))
        other = (("bill", 7, 7, 3), ("pay", 0, 9, 1), ("bill", 0, 63, 3), ("pay", 63, 63, 3))
        self.assertEqual(unlike_day(one, other + (("bill", 62, 63, 1),)), 62)
        self.assertIsNone(unlike_day(one, other))

    def test_f17_against_all_days(self):
        rows = list(standings(60))
        found = []
        for one, other in zip(rows, rows[1:] + rows[:1]):
            doubled = tuple([(word, first + k * every, 2 * every, much) for word, first, every, much in one for k in (0, 1)])
            for two in (other, one, doubled, doubled[1:], one[:-1], one + (("bill", 4, 5, 1), ("pay", 4, 5, 1))):
                both = one + two
                first = min([entry[1] for entry in both], default=0)
                days = range(first - 1, turn_of(both) + 3 * rise(both)[0])
                unlike = [
                    day for day in days
                    if (owed_on(one, day), waiting_on(one, day)) != (owed_on(two, day), waiting_on(two, day))
                ]
                self.assertEqual(unlike_day(one, two), min(unlike, default=None))
                found.append(unlike == [])
        self.assertGreater(found.count(True), 50)
        self.assertGreater(found.count(False), 50)

    def test_wrong_arguments(self):
        for standing in ODD_STANDINGS:
            self.assertRaises(InvalidStanding, unlike_day, standing, ())
            self.assertRaises(InvalidStanding, unlike_day, (), standing)


class LeastPaymentTest(unittest.TestCase):
    def test_the_example(self):
        self.assertEqual(least_payment(STANDING, 0, 7, 3), 6)
        self.assertEqual(least_payment((), 0, 7, 3), 0)
        self.assertEqual(least_payment(PAYMENTS, 0, 7, 3), 0)
        self.assertEqual(least_payment(BILLS, 3, 2, 0), 5)
        self.assertIsNone(least_payment(BILLS, 4, 2, 0))
        self.assertEqual(least_payment(BILLS, 4, 2, 1), 5)
        self.assertEqual(least_payment(BILLS, -400, 400, 0), 1000)
        self.assertEqual(least_payment(BILLS, 3, 2, LONG), 5)
        self.assertEqual(least_payment(STANDING, 400, 7, LONG), 1)

    def test_f18_against_each_less_sum(self):
        numbers = Numbers(5)
        found = []
        for standing in standings(100):
            for _ in range(2):
                first, every, after = numbers.below(7) - 3, (1, 2, 3, 6)[numbers.below(4)], AFTERS[numbers.below(4)]
                told = least_payment(standing, first, every, after)
                found.append(told)
                for much in range(1, 60 if told is None else told):
                    self.assertIs(always_within(standing + (("pay", first, every, much),), after), False)
                if told is None:
                    self.assertIs(always_within(standing + (("pay", first, every, HUGE_SUM),), after), False)
                elif told > 0:
                    self.assertIs(always_within((("pay", first, every, told),) + standing, after), True)
                self.assertIs(always_within(standing, after), told == 0)
        for answers in ([None], [0], range(1, 4), range(4, 60)):
            self.assertGreater(len([told for told in found if told in answers]), 10, answers)

    def test_wrong_arguments(self):
        for standing in ODD_STANDINGS:
            self.assertRaises(InvalidStanding, least_payment, standing, None, 0, -1)
        for value in ODD_DAYS:
            self.assertRaises(InvalidDay, least_payment, STANDING, value, 7, 3)
            self.assertRaises(InvalidDay, least_payment, STANDING, value, 0, -1)
            self.assertRaises(InvalidDay, least_payment, STANDING, 0, 7, value)
        for every in ODD_EVERIES:
            self.assertRaises(InvalidEvery, least_payment, STANDING, 0, every, -1)
        self.assertRaises(InvalidDay, least_payment, STANDING, 0, 7, -1)


class LimitsTest(unittest.TestCase):
    def test_at_the_limits_of_use_in_a_small_part_of_a_second(self):
        everies = (16, 9, 5, 7, 1, 1)
        for words in (("bill", "pay", "bill", "pay", "pay", "bill"), ("pay", "bill", "pay", "bill", "bill", "pay")):
            for sums in ((7, 9, 5, 1, 2, 2), (HUGE_SUM, 3, HUGE_SUM, 1, 5, HUGE_SUM), (1, 1, 1, 1, HUGE_SUM, HUGE_SUM)):
                firsts = (-400, 400, 0, -3, -400, 400)
                standing = tuple(zip(words, firsts, everies, sums))
                self.assertEqual(rise(standing)[0], 5040)
                for call, told in (
                    (always_within, (3,)), (first_late, (LONG,)), (rooms, (LONG,)), (worst_wait, ()), (greatest_owed, ()),
                    (clear_from, ()), (unlike_day, (standing[::-1],)), (least_payment, (-400, 1, LONG)),
                    (bill_at, (LONG,)), (payment_at, (LONG,)), (pair_of, (LONG, LONG)), (payers_between, (LONG,)),
                    (paid_off, (LONG,)), (owed_on, (LONG,)), (waiting_on, (LONG,)),
                ):
                    begin = time.perf_counter()
                    call(standing, *told)
                    self.assertLess(time.perf_counter() - begin, 1, (call.__name__, standing))


if __name__ == "__main__":
    unittest.main()
