"""[23]: ledgers against the functions over their accounts, behind each deed, and against each other."""

import inspect
import unittest

from oldestbills import ledgers
from oldestbills.days import owed
from oldestbills.days import waiting
from oldestbills.entries import changed
from oldestbills.entries import struck
from oldestbills.errors import BillError
from oldestbills.errors import InvalidBill
from oldestbills.errors import InvalidDay
from oldestbills.errors import InvalidIndex
from oldestbills.errors import InvalidManner
from oldestbills.errors import InvalidSum
from oldestbills.errors import NoBlock
from oldestbills.errors import NothingToUndo
from oldestbills.errors import Overpaid
from oldestbills.errors import StillNamed
from oldestbills.errors import TooLate
from oldestbills.layings import laid
from oldestbills.layings import moved
from oldestbills.ledgers import DatedLedger
from oldestbills.ledgers import Ledger
from oldestbills.ledgers import StrictDatedLedger
from oldestbills.ledgers import StrictLedger
from tests.helpers import EXAMPLE
from tests.helpers import HUGE_DAY
from tests.helpers import HUGE_SUM
from tests.helpers import MANNERS
from tests.helpers import Numbers
from tests.helpers import ODD
from tests.helpers import ODD_DAYS
from tests.helpers import ODD_MANNERS
from tests.helpers import ODD_SUMS
from tests.helpers import OLDEST
from tests.helpers import odd_indexes

CLASSES = (Ledger, StrictLedger, DatedLedger, StrictDatedLedger)
STRICT = (StrictLedger, StrictDatedLedger)
DATED = (DatedLedger, StrictDatedLedger)
METHODS = ("bill", "pay", "named", "strike", "change", "undo", "begin", "finish", "twin")
PROPERTIES = ("manner", "account", "laying", "owed", "waiting")


def do(ledger, deed):
    """Does a deed (word, arguments ..), with the name of a bill as the last argument of named."""
    word, *told = deed
    if word == "named":
        return ledger.named(told[0], told[1], bill=told[2])
    return getattr(ledger, word)(*told)


def led(kind, manner, deeds):
    ledger = kind(manner)
    for deed in deeds:
        do(ledger, deed)
    return ledger


def state(ledger):
    return ledger.manner, ledger.account, ledger.laying, ledger.owed, ledger.waiting, len(ledger)


def all_undone(ledger):
    """The words that undo gives, and the accounts behind each, on a twin."""
    other = ledger.twin()
    rows = []
    while True:
        try:
            rows.append((other.undo(), other.account))
        except NothingToUndo:
            return rows


def balance_of(account):
    return sum([0 if entry[0] == "struck" else entry[2] if entry[0] == "bill" else -entry[2] for entry in account])


def behind(account, deed):
    """What a deed that can be done leads to, by the functions of [11]."""
    word, *told = deed
    if word == "strike":
        return struck(account, *told)
    if word == "change":
        return changed(account, *told)
    return account + ((word, *told),)


def refusal(kind, account, deed):
    """The error that a class of ledgers raises for a deed that Ledger does, with its field; None if it raises none."""
    after = behind(account, deed)
    days = [entry[1] for entry in account if entry[0] != "struck"]
    if kind in DATED and deed[0] in ("bill", "pay", "named") and max(days, default=deed[1]) > deed[1]:
        return TooLate, max(days)
    if kind in STRICT and balance_of(after) < 0:
        return Overpaid, -balance_of(after)
    return None


def any_deed(account, numbers):
    """A deed that Ledger does, or one that names what it cannot."""
    alive = [index for index, entry in enumerate(account) if entry[0] != "struck"]
    bills = [index for index in alive if account[index][0] == "bill"]
    word = ("bill", "bill", "pay", "named", "strike", "change")[numbers.below(6)]
    day, much = numbers.below(7) + len(account) // 3, 1 + numbers.below(9)
    if word == "named" and bills:
        return (word, day, much, bills[numbers.below(len(bills))])
    if word in ("strike", "change") and alive:
        index = alive[numbers.below(len(alive))]
        return (word, index) if word == "strike" else (word, index, day, much)
    return ("pay" if word == "pay" else "bill", day, much)


class LedgerTest(unittest.TestCase):
    def agree(self, ledger, account, manner):
        """It tells what the functions tell over the account."""
        self.assertEqual(ledger.account, account)
        self.assertEqual(ledger.manner, manner)
        self.assertEqual(ledger.laying, laid(account, manner))
        self.assertEqual((ledger.owed, ledger.waiting), (owed(account, HUGE_DAY), waiting(account, HUGE_DAY)))
        self.assertEqual(len(ledger), len([entry for entry in account if entry[0] != "struck"]))

    def test_the_empty_one(self):
        for kind in CLASSES:
            for manner in MANNERS:
                ledger = kind(manner)
                self.agree(ledger, (), manner)
                self.assertRaises(NothingToUndo, ledger.undo)
                self.assertRaises(NoBlock, ledger.finish)

    def test_by_hand(self):
        ledger = Ledger(OLDEST)
        self.assertEqual([do(ledger, entry) for entry in EXAMPLE], [0, 0, 2, 3])
        self.agree(ledger, EXAMPLE, OLDEST)
        self.assertEqual(ledger.named(9, 5, bill=1), 1)
        self.assertEqual(ledger.strike(3), 4)
        self.assertEqual(ledger.change(2, 1, 1), 2)
        self.assertEqual([ledger.undo() for _ in range(3)], ["change", "strike", "named"])
        self.agree(ledger, EXAMPLE, OLDEST)
        self.assertEqual(ledger.change(0, 1, 10), 0)
        self.assertEqual(ledger.undo(), "change")

    def test_behind_each_deed_all_classes_as_the_functions_tell(self):
        refused = []
        for seed in range(48):
            numbers = Numbers(seed)
            manner = MANNERS[seed % 8]
            for kind in CLASSES:
                ledger, rows = kind(manner), [()]
                for _ in range(24):
                    deed = any_deed(rows[-1], numbers)
                    refused += [self.done(ledger, rows, deed)]
                    self.agree(ledger, rows[-1], manner)
                self.assertEqual([account for word, account in all_undone(ledger)], rows[:-1][::-1])
                while len(rows) > 1:
                    rows.pop()
                    ledger.undo()
                    self.agree(ledger, rows[-1], manner)
        for error in (TooLate, Overpaid, StillNamed, InvalidDay, None):
            self.assertGreater(refused.count(error), 20, error)

    def done(self, ledger, rows, deed):
        """Does a deed and compares what comes of it; the error that is raised, or None."""
        kind, account, manner = type(ledger), rows[-1], ledger.manner
        try:
            after = behind(account, deed)
        except BillError as error:
            with self.assertRaises(type(error)):
                do(ledger, deed)
            return type(error)
        if deed[0] == "named" and account[deed[3]][1] > deed[1]:
            self.assertRaises(InvalidDay, do, ledger, deed)
            return InvalidDay
        told = refusal(kind, account, deed)
        if told is not None:
            with self.assertRaises(told[0]) as caught:
                do(ledger, deed)
            self.assertIs(type(caught.exception), told[0])
            self.assertEqual(vars(caught.exception), {"excess" if told[0] is Overpaid else "day": told[1]})
            return told[0]
        self.assertEqual(do(ledger, deed), len(moved(account, after, manner)))
        rows.append(after)
        return None

    def test_the_four_classes_against_each_other(self):
        # What all four do is done alike; what one refuses leaves it as it is.
        for seed in range(30):
            numbers = Numbers(seed)
            rows = [kind(OLDEST) for kind in CLASSES]
            for _ in range(20):
                deed = any_deed(rows[3].account, numbers)
                answers = []
                for ledger in rows:
                    other = ledger.twin()
                    try:
                        answers.append(do(other, deed))
                    except BillError as error:
                        answers.append(type(error))
                if answers[0] == answers[3]:
                    self.assertEqual(answers, [answers[0]] * 4)
                    for ledger in rows if isinstance(answers[0], int) else []:
                        do(ledger, deed)
                elif answers[3] is TooLate:
                    self.assertIs(answers[2], TooLate)
                    self.assertIn(answers[1], (answers[0], Overpaid))
                else:
                    self.assertEqual(answers, [answers[0], Overpaid, answers[0], Overpaid])
                self.assertEqual(len({ledger.account for ledger in rows}), 1)
                self.assertEqual(rows[0], rows[3])

    def test_lists_are_new(self):
        ledger = led(Ledger, OLDEST, EXAMPLE)
        ledger.laying.append("spoiled")
        self.assertEqual(ledger.laying, laid(EXAMPLE, OLDEST))
        self.assertIsNot(ledger.laying, ledger.laying)

    def test_equality(self):
        for kind in CLASSES:
            for other in CLASSES:
                self.assertTrue(kind(OLDEST) == other(OLDEST))
                self.assertFalse(kind(OLDEST) != other(OLDEST))
                self.assertFalse(kind(OLDEST) == other(("days", "newest")))
                one, two = led(kind, OLDEST, EXAMPLE[:2]), led(other, OLDEST, EXAMPLE[:2])
                self.assertTrue(one == two)
                two.strike(1)
                self.assertTrue(one != two)
                two.undo()
                two.begin()
                self.assertTrue(one == two)
            for value in ODD + (EXAMPLE, (), OLDEST):
                self.assertFalse(kind(OLDEST) == value)
                self.assertTrue(kind(OLDEST) != value)
                self.assertTrue(value != kind(OLDEST))

    def test_as_the_interface_lists_it(self):
        for kind in CLASSES:
            self.assertEqual(kind.__module__, "oldestbills.ledgers")
            self.assertIs(getattr(ledgers, kind.__name__), kind)
            for name in METHODS:
                self.assertTrue(inspect.isfunction(vars(kind)[name]), (kind, name))
            ledger = kind(manner=OLDEST)
            for name in PROPERTIES:
                self.assertIs(type(vars(Ledger)[name]), property)
                with self.assertRaises(AttributeError):
                    setattr(ledger, name, None)
            self.assertRaises(TypeError, iter, ledger)
            self.assertEqual(ledger.bill(day=1, sum_here=9), 0)
            self.assertEqual(ledger.pay(sum_here=2, day=2), 1)
            self.assertEqual(ledger.named(day=3, sum_here=3, bill=0), 1)
            self.assertRaises(TypeError, ledger.named, 3, 1, 0)
            self.assertEqual(ledger.change(index=1, day=2, sum_here=1), 1)
            self.assertEqual(ledger.strike(index=1), 1)
            self.assertIs(type(ledger.twin()), kind)
        self.assertTrue(issubclass(StrictDatedLedger, StrictLedger) and issubclass(StrictDatedLedger, DatedLedger))
        self.assertTrue(issubclass(StrictLedger, Ledger) and issubclass(DatedLedger, Ledger))
        self.assertFalse(issubclass(StrictLedger, DatedLedger) or issubclass(DatedLedger, StrictLedger))

    def test_at_the_limits_of_use(self):
        for kind in CLASSES:
            ledger = kind(OLDEST)
            for step in range(20):
                ledger.begin()
                for k in (0, 1):
                    ledger.bill(10 ** 6 - 40 + 2 * step + k, HUGE_SUM)
            for step in range(60):
                ledger.change(step % 40, 10 ** 6, HUGE_SUM - step)
            self.assertEqual((len(ledger), len(all_undone(ledger))), (40, 100))
            for step in range(20, 0, -1):
                ledger.finish()
                self.assertEqual(len(ledger), 2 * (step - 1))
            self.assertRaises(NoBlock, ledger.finish)


class ErrorsTest(unittest.TestCase):
    def setUp(self):
        deeds = (("bill", 1, 9), ("bill", 4, 9), ("named", 4, 2, 1), ("bill", 5, 1), ("strike", 3))
        self.ledgers = [led(kind, OLDEST, deeds) for kind in CLASSES]

    def refuses(self, error, word, *told, **named):
        """All classes raise just this error, and nothing changes by it."""
        for ledger in self.ledgers:
            before, undone = state(ledger), all_undone(ledger)
            with self.assertRaises(BillError) as caught:
                getattr(ledger, word)(*told, **named)
            self.assertIs(type(caught.exception), error, (type(ledger), word, told, named))
            self.assertEqual((state(ledger), all_undone(ledger)), (before, undone))

    def test_manners(self):
        for kind in CLASSES:
            for manner in ODD_MANNERS:
                self.assertRaises(InvalidManner, kind, manner)

    def test_bill_and_pay(self):
        for word in ("bill", "pay"):
            for day in ODD_DAYS:
                self.refuses(InvalidDay, word, day, 1)
                self.refuses(InvalidDay, word, day, None)
            for much in ODD_SUMS:
                self.refuses(InvalidSum, word, 9, much)
                # Behind the errors of the arguments come those of the classes.
                self.refuses(InvalidSum, word, -9, much)

    def test_named(self):
        for day in ODD_DAYS:
            self.refuses(InvalidDay, "named", day, None, bill=None)
        for much in ODD_SUMS:
            self.refuses(InvalidSum, "named", -9, much, bill=None)
        for bill in odd_indexes(self.ledgers[0].account, ("bill",)):
            self.refuses(InvalidBill, "named", -9, 99, bill=bill)
        self.refuses(InvalidDay, "named", 3, 99, bill=1)
        self.refuses(InvalidDay, "named", 0, 99, bill=0)

    def test_strike_and_change(self):
        for index in odd_indexes(self.ledgers[0].account, ("bill", "pay", "named")):
            self.refuses(InvalidIndex, "strike", index)
            self.refuses(InvalidIndex, "change", index, None, None)
        for day in ODD_DAYS:
            self.refuses(InvalidDay, "change", 2, day, None)
        for much in ODD_SUMS:
            self.refuses(InvalidSum, "change", 2, 3, much)
            self.refuses(InvalidSum, "change", 1, 9, much)
        self.refuses(InvalidDay, "change", 2, 3, 99)
        self.refuses(StillNamed, "change", 1, 5, 1)
        self.refuses(StillNamed, "strike", 1)

    def test_money_that_would_wait(self):
        for ledger in self.ledgers:
            if type(ledger) in STRICT:
                for excess, word, told in (
                    (1, "pay", (9, 17)), (HUGE_SUM, "pay", (9, 16 + HUGE_SUM)), (3, "change", (2, 4, 21)),
                ):
                    with self.assertRaises(Overpaid) as caught:
                        getattr(ledger, word)(*told)
                    self.assertEqual(caught.exception.excess, excess)
                with self.assertRaises(Overpaid) as caught:
                    ledger.named(9, 18, bill=0)
                self.assertEqual(caught.exception.excess, 2)
                self.assertEqual(ledger.pay(9, 16), 2)
                for word, told, excess in (("strike", (0,), 9), ("change", (0, 1, 8), 1), ("change", (0, 99, 1), 8)):
                    with self.assertRaises(Overpaid) as caught:
                        getattr(ledger, word)(*told)
                    self.assertEqual(caught.exception.excess, excess)
                self.assertEqual(ledger.owed, 0)
                self.assertEqual(ledger.undo(), "pay")
            else:
                self.assertEqual(ledger.pay(9, 17), 2)
                self.assertEqual(ledger.waiting, 1)

    def test_entries_that_come_late(self):
        for ledger in self.ledgers:
            for word, told, named in (("bill", (3, 1), {}), ("pay", (3, 1), {}), ("named", (3, 1), {"bill": 0})):
                if type(ledger) in DATED:
                    with self.assertRaises(TooLate) as caught:
                        getattr(ledger, word)(*told, **named)
                    # The entry of day 5 is struck.
                    self.assertEqual(caught.exception.day, 4)
                else:
                    getattr(ledger, word)(*told, **named)
        for kind in DATED:
            ledger = led(kind, OLDEST, (("bill", 4, 9), ("bill", 4, 9)))
            self.assertEqual((ledger.pay(4, 1), ledger.change(0, 7, 9)), (1, 2))
            with self.assertRaises(TooLate) as caught:
                ledger.bill(6, 1)
            self.assertEqual(caught.exception.day, 7)
            self.assertEqual((ledger.change(0, 1, 9), ledger.bill(4, 1), ledger.strike(0)), (2, 0, 2))
            self.assertEqual(ledger.undo(), "strike")

    def test_too_late_comes_ahead_of_overpaid(self):
        ledger = led(StrictDatedLedger, OLDEST, (("bill", 4, 9),))
        self.assertRaises(TooLate, ledger.pay, 3, 99)
        self.assertRaises(Overpaid, ledger.pay, 4, 99)
        ledger.change(0, -5, 9)
        with self.assertRaises(TooLate) as caught:
            ledger.pay(-6, 99)
        self.assertEqual(caught.exception.day, -5)

    def test_undo_and_finish_raise_neither(self):
        for kind in CLASSES:
            ledger = led(kind, OLDEST, (("bill", 4, 9), ("pay", 4, 9)))
            ledger.begin()
            ledger.bill(5, 5)
            ledger.change(0, 9, 4)
            self.assertEqual((ledger.undo(), ledger.undo()), ("change", "bill"))
            ledger.bill(8, 1)
            ledger.finish()
            self.assertEqual(ledger.account, (("bill", 4, 9), ("pay", 4, 9)))
            self.assertEqual((ledger.undo(), ledger.undo()), ("pay", "bill"))


class BlocksTest(unittest.TestCase):
    def test_blocks_undo_and_twins_against_kept_copies(self):
        for seed in range(40):
            numbers = Numbers(seed)
            kind = CLASSES[seed % 4]
            ledger, stack, blocks = kind(OLDEST), [((), None)], []
            for _ in range(60):
                at = numbers.below(10)
                if at == 0 and len(blocks) < 20:
                    self.assertIsNone(ledger.begin())
                    blocks.append((list(stack), state(ledger)))
                elif at == 1 and blocks:
                    self.assertIsNone(ledger.finish())
                    stack, before = blocks.pop()
                    self.assertEqual(state(ledger), before)
                elif at == 1:
                    self.assertRaises(NoBlock, ledger.finish)
                elif at in (2, 3):
                    self.undone(ledger, stack, blocks)
                else:
                    deed = any_deed(ledger.account, numbers)
                    try:
                        do(ledger, deed)
                        stack.append((ledger.account, deed[0]))
                    except BillError:
                        pass
                self.assertEqual(ledger.account, stack[-1][0])
                other = ledger.twin()
                self.assertIs(type(other), kind)
                self.assertEqual(state(other), state(ledger))
                self.assertRaises(NoBlock, other.finish)
                told = [(word, account) for (account, _), (_, word) in zip(stack, stack[1:])][::-1]
                self.assertEqual(all_undone(ledger), told)

    def undone(self, ledger, stack, blocks):
        if len(stack) > (len(blocks[-1][0]) if blocks else 1):
            self.assertEqual(ledger.undo(), stack.pop()[1])
        else:
            self.assertRaises(NothingToUndo, ledger.undo)

    def test_undo_inside_of_a_block(self):
        for kind in CLASSES:
            ledger = led(kind, OLDEST, (("bill", 1, 9), ("bill", 2, 9)))
            self.assertEqual(ledger.undo(), "bill")
            ledger.begin()
            self.assertRaises(NothingToUndo, ledger.undo)
            ledger.pay(3, 1)
            ledger.begin()
            self.assertRaises(NothingToUndo, ledger.undo)
            ledger.strike(1)
            ledger.finish()
            self.assertEqual(ledger.account, (("bill", 1, 9), ("pay", 3, 1)))
            self.assertEqual(ledger.undo(), "pay")
            self.assertRaises(NothingToUndo, ledger.undo)
            ledger.finish()
            self.assertEqual(ledger.account, (("bill", 1, 9),))
            self.assertEqual(ledger.undo(), "bill")
            self.assertRaises(NothingToUndo, ledger.undo)
            self.assertRaises(NoBlock, ledger.finish)

    def test_a_twin_inside_of_a_block(self):
        for kind in CLASSES:
            ledger = led(kind, OLDEST, (("bill", 1, 9),))
            ledger.begin()
            ledger.begin()
            ledger.pay(3, 1)
            other = ledger.twin()
            self.assertRaises(NoBlock, other.finish)
            self.assertEqual((other.undo(), other.undo()), ("pay", "bill"))
            self.assertRaises(NothingToUndo, other.undo)
            other.bill(7, 7)
            self.assertEqual(ledger.account, (("bill", 1, 9), ("pay", 3, 1)))
            ledger.finish()
            ledger.finish()
            self.assertEqual((ledger.account, other.account), ((("bill", 1, 9),), (("bill", 7, 7),)))
            twin = ledger.twin()
            ledger.bill(8, 8)
            self.assertEqual(twin.account, (("bill", 1, 9),))
            self.assertEqual(twin.undo(), "bill")
            self.assertEqual(len(ledger), 2)

    def test_a_strict_twin_is_strict(self):
        for kind in STRICT:
            self.assertRaises(Overpaid, kind(OLDEST).twin().pay, 1, 1)
        for kind in DATED:
            self.assertRaises(TooLate, led(kind, OLDEST, (("bill", 3, 1),)).twin().bill, 2, 1)


if __name__ == "__main__":
    unittest.main()
