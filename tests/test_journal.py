"""[21]: the class Journal against the functions over its history, behind each deed, each undo and in each twin."""

import inspect
import unittest

from oldestbills import closings
from oldestbills.closings import Journal
from oldestbills.closings import closed_day
from oldestbills.closings import is_history
from oldestbills.closings import journal
from oldestbills.closings import origins
from oldestbills.closings import reports
from oldestbills.closings import true_account
from oldestbills.errors import BillError
from oldestbills.errors import InvalidDay
from oldestbills.errors import InvalidIndex
from oldestbills.errors import InvalidSum
from oldestbills.errors import NothingToUndo
from tests.helpers import HUGE_DAY
from tests.helpers import HUGE_SUM
from tests.helpers import Numbers
from tests.helpers import ODD
from tests.helpers import ODD_DAYS
from tests.helpers import ODD_SUMS
from tests.kinds import HISTORY
from tests.kinds import any_history
from tests.slow_journal import Slow
from tests.slow_journal import balance_of

METHODS = ("bill", "pay", "strike", "change", "close", "undo", "report", "twin", "__len__", "__eq__", "__init__")
PROPERTIES = ("history", "account", "posted", "closed", "balance_now")


def done(live, deed):
    """Does a deed of a history; what the method returns."""
    return getattr(live, deed[0])(*deed[1:])


def told_by(slow, deed):
    """What a deed is to return, by a slow journal."""
    before = len(slow.journal)
    slow.do(deed)
    if deed[0] == "close":
        return slow.reports[-1]
    if deed[0] == "strike":
        return "struck" if len(slow.journal) == before else "reversal"
    return slow.journal[-1][0][1]


def led(history):
    live = Journal()
    for deed in history:
        done(live, deed)
    return live


def state(live):
    """All that a journal tells."""
    many = len([deed for deed in live.history if deed[0] == "close"])
    return (
        live.history, live.account, live.posted, live.closed, live.balance_now, len(live),
        [live.report(k) for k in range(many)],
    )


class JournalTest(unittest.TestCase):
    def agree(self, live, history):
        """It tells what the functions tell over the history."""
        self.assertEqual(live.history, history)
        self.assertIs(type(live.history), tuple)
        self.assertTrue(is_history(live.history))
        self.assertEqual(live.account, true_account(history))
        self.assertEqual(live.posted, journal(history))
        self.assertEqual(live.closed, closed_day(history))
        self.assertEqual(live.balance_now, balance_of(true_account(history)))
        self.assertEqual(len(live), len(history))
        told = reports(history)
        self.assertEqual([live.report(k) for k in range(len(told))], told)
        for k in (-1, len(told), len(told) + 1):
            self.assertRaises(InvalidIndex, live.report, k)

    def test_the_empty_one(self):
        live = Journal()
        self.agree(live, ())
        self.assertEqual((live.closed, live.balance_now, len(live)), (None, 0, 0))
        self.assertRaises(NothingToUndo, live.undo)

    def test_the_example(self):
        live = Journal()
        self.assertEqual(live.bill(1, 10), 1)
        self.assertEqual(live.close(5), (5, 10, [(0, 10)]))
        self.assertEqual(live.pay(3, 4), 6)
        self.assertEqual(live.strike(0), "reversal")
        self.agree(live, HISTORY)
        self.assertEqual(live.balance_now, -4)
        self.assertEqual([live.undo() for _ in range(4)], ["strike", "pay", "close", "bill"])
        self.agree(live, ())

    def test_what_the_deeds_return(self):
        live = Journal()
        self.assertEqual((live.bill(1, 3), live.pay(-4, 2), live.strike(1)), (1, -4, "struck"))
        self.assertEqual(live.change(0, 2, 9), 2)
        self.assertEqual(live.close(2), (2, 9, [(2, 9)]))
        self.assertEqual((live.bill(2, 1), live.bill(3, 1), live.pay(1, 1)), (3, 3, 3))
        self.assertEqual(live.strike(2), "struck")
        self.assertEqual(live.change(0, 1, 4), 3)
        self.assertEqual(live.change(0, 8, 4), 8)
        self.assertEqual(live.strike(0), "struck")
        self.assertEqual(live.close(3)[0], 3)
        self.assertEqual(live.strike(3), "reversal")

    def test_behind_each_deed_and_each_undo(self):
        for seed in range(60):
            history = any_history(seed, seed % 25, days=4 + seed % 9)
            live = Journal()
            for many, deed in enumerate(history):
                self.assertEqual(done(live, deed), told_by(Slow(history[:many]), deed))
                self.agree(live, history[:many + 1])
            while len(live):
                self.assertEqual(live.undo(), history[len(live)][0])
                self.agree(live, history[:len(live)])
            self.assertRaises(NothingToUndo, live.undo)

    def test_deeds_undos_and_twins_in_any_sequence(self):
        for seed in range(30):
            numbers = Numbers(seed)
            rows = [(Journal(), ())]
            for step in range(40):
                at = numbers.below(len(rows))
                live, history = rows[at]
                if numbers.below(4) == 0 and history:
                    self.assertEqual(live.undo(), history[-1][0])
                    rows[at] = (live, history[:-1])
                elif numbers.below(6) == 0 and len(rows) < 4:
                    rows.append((live.twin(), history))
                else:
                    deed = self.any_deed(live, numbers)
                    done(live, deed)
                    rows[at] = (live, history + (deed,))
                for other, told in rows:
                    self.agree(other, told)

    def any_deed(self, live, numbers):
        alive = [index for index, entry in enumerate(live.account) if entry[0] != "struck"]
        word = ("bill", "pay", "strike", "change", "close")[numbers.below(5)]
        day, much = numbers.below(9) - 4, 1 + numbers.below(9)
        if word == "close":
            return (word, day if live.closed is None else live.closed + 1 + numbers.below(3))
        if word in ("strike", "change") and alive:
            index = alive[numbers.below(len(alive))]
            return (word, index) if word == "strike" else (word, index, day, much)
        return ("bill" if word != "pay" else word, day, much)

    def test_a_deed_that_raises_an_error_changes_nothing(self):
        live = led(HISTORY + (("bill", 9, 3),))
        before = state(live)
        wrong = [(InvalidDay, word, (day, much)) for word in ("bill", "pay") for day in ODD_DAYS for much in (1, None)]
        wrong += [(InvalidSum, word, (1, much)) for word in ("bill", "pay") for much in ODD_SUMS]
        indexes = ODD + (0, -1, 3, HUGE_SUM)
        wrong += [(InvalidIndex, "strike", (index,)) for index in indexes]
        wrong += [(InvalidIndex, "change", (index, None, None)) for index in indexes]
        wrong += [(InvalidDay, "change", (1, day, None)) for day in ODD_DAYS]
        wrong += [(InvalidSum, "change", (1, 1, much)) for much in ODD_SUMS]
        wrong += [(InvalidDay, "close", (day,)) for day in ODD_DAYS + (5, 4, -HUGE_DAY)]
        wrong += [(InvalidIndex, "report", (k,)) for k in ODD + (-1, 1, HUGE_SUM)]
        for error, word, arguments in wrong:
            with self.subTest(word, arguments=arguments):
                with self.assertRaises(BillError) as caught:
                    getattr(live, word)(*arguments)
                self.assertIs(type(caught.exception), error)
                self.assertEqual(state(live), before)
        empty = Journal()
        self.assertRaises(NothingToUndo, empty.undo)
        self.assertRaises(InvalidIndex, empty.strike, 0)
        self.assertEqual(state(empty), state(Journal()))

    def test_a_twin_and_its_journal_do_not_touch_each_other(self):
        live = led(HISTORY)
        before = state(live)
        other = live.twin()
        self.assertIs(type(other), Journal)
        self.assertEqual(state(other), before)
        other.pay(9, 1)
        other.close(10)
        self.assertEqual(state(live), before)
        kept = state(other)
        live.undo()
        live.bill(7, 7)
        self.assertEqual(state(other), kept)
        while len(other):
            other.undo()
        self.assertEqual(live.history, HISTORY[:3] + (("bill", 7, 7),))

    def test_lists_are_new(self):
        live = led(HISTORY)
        told = live.report(0)
        told[2].append("spoiled")
        self.assertEqual(live.report(0), (5, 10, [(0, 10)]))
        told = live.close(9)
        told[2].append("spoiled")
        self.assertEqual(live.report(1), (9, -4, []))
        rows = reports(HISTORY)
        rows[0][2].append("spoiled")
        rows.append("spoiled")
        self.assertEqual(reports(HISTORY), [(5, 10, [(0, 10)])])
        roots = origins(HISTORY)
        roots.append("spoiled")
        self.assertEqual(len(origins(HISTORY)), 3)

    def test_equality(self):
        self.assertEqual(Journal(), Journal())
        self.assertTrue(led(HISTORY) == led(HISTORY))
        self.assertFalse(led(HISTORY) != led(HISTORY))
        self.assertTrue(led(HISTORY) != led(HISTORY[:3]))
        # Equal by what they tell now, but not by their deeds.
        self.assertTrue(led((("bill", 1, 2), ("change", 0, 1, 2))) != led((("bill", 1, 2),)))
        for value in ODD + (HISTORY, list(HISTORY), ()):
            self.assertFalse(led(HISTORY) == value)
            self.assertTrue(led(HISTORY) != value)
            self.assertTrue(value != Journal())

    def test_by_name_and_as_the_interface_lists_it(self):
        live = Journal()
        self.assertEqual(live.bill(day=1, sum_here=10), 1)
        self.assertEqual(live.pay(sum_here=4, day=3), 3)
        self.assertEqual(live.change(sum_here=5, index=1, day=2), 2)
        self.assertEqual(live.close(day=5), (5, 5, [(0, 5)]))
        self.assertEqual(live.report(k=0), (5, 5, [(0, 5)]))
        self.assertEqual(live.strike(index=0), "reversal")
        for name in METHODS:
            self.assertTrue(inspect.isfunction(vars(Journal)[name]), name)
        for name in PROPERTIES:
            self.assertIs(type(vars(Journal)[name]), property)
            with self.assertRaises(AttributeError):
                setattr(live, name, None)
        self.assertIs(vars(closings)["Journal"], Journal)
        self.assertEqual(Journal.__module__, "oldestbills.closings")

    def test_journals_are_not_iterated_over(self):
        self.assertRaises(TypeError, iter, led(HISTORY))
        self.assertRaises(TypeError, list, Journal())

    def test_at_the_limits_of_use(self):
        for seed in range(4):
            history = any_history(seed, 60, days=2000000, most=HUGE_SUM)
            live = led(history)
            self.agree(live, history)
            self.agree(live.twin(), history)
            self.assertEqual([live.undo() for _ in history], [deed[0] for deed in history[::-1]])


if __name__ == "__main__":
    unittest.main()
