"""[2] for each function: names, the table of errors and their order, arguments that stay, lists that are new."""

import copy
import inspect
import unittest

from oldestbills import days
from oldestbills import entries
from oldestbills import errors
from oldestbills import layings
from tests.helpers import EXAMPLE
from tests.helpers import MIXED
from tests.helpers import ODD
from tests.helpers import ODD_ACCOUNTS
from tests.helpers import ODD_DAYS
from tests.helpers import ODD_EDGES
from tests.helpers import ODD_MANNERS
from tests.helpers import ODD_SUMS
from tests.helpers import OLDEST
from tests.helpers import odd_indexes

LAYING = [(0, 2, 6), (0, 3, 4), (1, 2, 9)]

# Each function of the interface with one call of it, by names in the order of the signature.
CALLS = (
    (entries.is_account, {"value": MIXED}),
    (entries.is_manner, {"value": OLDEST}),
    (entries.line, {"account": MIXED}),
    (entries.bills_of, {"account": MIXED}),
    (entries.payments_of, {"account": MIXED}),
    (entries.as_of, {"account": MIXED, "day": 3}),
    (entries.struck, {"account": MIXED, "index": 6}),
    (entries.changed, {"account": MIXED, "index": 4, "day": 5, "sum_here": 6}),
    (entries.joined, {"account": EXAMPLE, "other_account": MIXED}),
    (layings.is_laying, {"account": EXAMPLE, "value": LAYING}),
    (layings.laid, {"account": MIXED, "manner": OLDEST}),
    (layings.opens, {"account": MIXED, "manner": OLDEST}),
    (layings.waits, {"account": MIXED, "manner": OLDEST}),
    (layings.overlaps, {"plain": EXAMPLE}),
    (layings.payers, {"account": MIXED, "manner": OLDEST, "bill": 0}),
    (layings.paid_by, {"account": MIXED, "manner": OLDEST, "payment": 1}),
    (layings.moved, {"account": MIXED, "other_account": EXAMPLE, "manner": OLDEST}),
    (days.owed, {"account": MIXED, "day": 3}),
    (days.waiting, {"account": MIXED, "day": 3}),
    (days.statement, {"account": MIXED, "manner": OLDEST, "day": 3}),
    (days.paid_day, {"account": MIXED, "manner": OLDEST, "bill": 0}),
    (days.aged, {"account": MIXED, "manner": OLDEST, "day": 3, "edges": (1, 2)}),
    (days.owed_days, {"account": MIXED}),
    (days.never_more, {"account": MIXED, "other_account": EXAMPLE}),
    (days.more_day, {"account": MIXED, "other_account": EXAMPLE}),
)

TABLE = {
    "account": (errors.InvalidAccount, ODD_ACCOUNTS),
    "other_account": (errors.InvalidAccount, ODD_ACCOUNTS),
    "plain": (errors.InvalidAccount, ODD_ACCOUNTS + (MIXED,)),
    "manner": (errors.InvalidManner, ODD_MANNERS),
    "day": (errors.InvalidDay, ODD_DAYS),
    "sum_here": (errors.InvalidSum, ODD_SUMS),
    "index": (errors.InvalidIndex, odd_indexes(MIXED, ("bill", "pay", "named"))),
    "bill": (errors.InvalidBill, odd_indexes(MIXED, ("bill",))),
    "payment": (errors.InvalidPayment, odd_indexes(MIXED, ("pay", "named"))),
    "edges": (errors.InvalidEdges, ODD_EDGES),
}


def spoiled(value):
    """Changes each list of an answer, also the ones inside."""
    if isinstance(value, (list, tuple)):
        for part in value:
            spoiled(part)
    if isinstance(value, list):
        value.append("spoiled")


class ConventionsTest(unittest.TestCase):
    def test_by_position_and_by_name(self):
        for call, told in CALLS:
            with self.subTest(call.__name__):
                self.assertEqual(list(inspect.signature(call).parameters), list(told))
                answer = call(*told.values())
                self.assertEqual(call(**told), answer)
                self.assertEqual(call(**dict(reversed(list(told.items())))), answer)
                self.assertIs(type(call(**told)), type(answer))

    def test_each_function_is_defined_where_the_interface_lists_it(self):
        for call, _ in CALLS:
            self.assertTrue(inspect.isfunction(call))
            home = {"entries": entries, "layings": layings, "days": days}[call.__module__.split(".")[1]]
            self.assertIs(getattr(home, call.__name__), call)

    def test_arguments_are_as_before(self):
        for call, told in CALLS:
            before = copy.deepcopy(told)
            call(**told)
            self.assertEqual(told, before)
        value = [list(row) for row in LAYING] + [["odd", [1, 2]]]
        before = copy.deepcopy(value)
        layings.is_laying(EXAMPLE, value)
        entries.is_account(value)
        entries.is_manner(value)
        self.assertEqual(value, before)

    def test_lists_are_new(self):
        for call, told in CALLS:
            with self.subTest(call.__name__):
                answer = call(**told)
                kept = copy.deepcopy(answer)
                spoiled(answer)
                self.assertEqual(call(**told), kept)

    def test_answers_are_lists_or_tuples_as_the_interface_says(self):
        tuples = ("as_of", "struck", "changed", "joined")
        numbers = ("owed", "waiting", "paid_day", "more_day")
        told_so = ("is_account", "is_manner", "is_laying", "never_more")
        for call, told in CALLS:
            kinds = [(tuple, tuples), (int, numbers), (bool, told_so)]
            kind = ([kind for kind, names in kinds if call.__name__ in names] + [list])[0]
            self.assertIs(type(call(**told)), kind, call.__name__)

    def test_the_table_of_errors(self):
        for call, told in CALLS:
            for name in told:
                if name == "value":
                    continue
                error, wrong = TABLE[name]
                for value in wrong:
                    with self.subTest(call.__name__, parameter=name, value=value):
                        with self.assertRaises(errors.BillError) as caught:
                            call(**{**told, name: value})
                        self.assertIs(type(caught.exception), error)

    def test_of_two_wrong_arguments_the_first_one_is_told(self):
        for call, told in CALLS:
            names = [name for name in told if name != "value"]
            pairs = [(one, two) for at, one in enumerate(names) for two in names[at + 1:]]
            for one, two in pairs:
                for value in (None, TABLE[one][1][-1]):
                    wrong = {**told, one: value, two: TABLE[two][1][-1]}
                    with self.subTest(call.__name__, wrong=(one, two)):
                        with self.assertRaises(errors.BillError) as caught:
                            call(**wrong)
                        self.assertIs(type(caught.exception), TABLE[one][0])

    def test_a_wrong_account_is_told_ahead_of_any_value(self):
        for value in ODD + (LAYING,):
            self.assertRaises(errors.InvalidAccount, layings.is_laying, list(EXAMPLE), value)

    def test_what_tells_whether_is_true_or_false_for_any_value(self):
        for value in ODD + ODD_ACCOUNTS + ODD_MANNERS:
            self.assertIs(type(entries.is_account(value)), bool)
            self.assertIs(type(entries.is_manner(value)), bool)
            self.assertIs(type(layings.is_laying(EXAMPLE, value)), bool)

    def test_nothing_is_raised_for_limits_of_use(self):
        account = tuple([("bill", 10 ** 45 + k, 10 ** 60) for k in range(50)]) + (("pay", -10 ** 45, 10 ** 59),)
        self.assertEqual(layings.laid(account, OLDEST), [(0, 50, 10 ** 59)])
        self.assertEqual(days.owed(account, 10 ** 46), 50 * 10 ** 60 - 10 ** 59)
        self.assertEqual(len(days.aged(account, OLDEST, 10 ** 45, tuple(range(60)))), 61)


if __name__ == "__main__":
    unittest.main()
