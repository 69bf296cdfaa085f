"""[2] for each function: names, the table of errors and their order, arguments that stay, lists that are new."""

import copy
import inspect
import unittest

from oldestbills import charges
from oldestbills import closings
from oldestbills import days
from oldestbills import entries
from oldestbills import errors
from oldestbills import latecomers
from oldestbills import layings
from oldestbills import orders
from oldestbills import roughs
from oldestbills import shows
from oldestbills import standing
from oldestbills import tariffs
from tests.calls import CALLS
from tests.calls import EXCHANGE
from tests.calls import HOMES
from tests.calls import spoiled
from tests.calls import wrong_for
from tests.helpers import EXAMPLE
from tests.helpers import MIXED
from tests.helpers import ODD
from tests.helpers import ODD_ACCOUNTS
from tests.helpers import ODD_MANNERS
from tests.helpers import OLDEST
from tests.kinds import BILLS
from tests.kinds import HISTORY
from tests.kinds import ODD_HISTORIES
from tests.kinds import ODD_SHOWS
from tests.kinds import ODD_STANDINGS
from tests.kinds import STANDING
from tests.samples import LEAST
from tests.samples import ODD_EXCHANGES
from tests.samples import ODD_KINDS
from tests.samples import ODD_LAYINGS
from tests.samples import ODD_ORDERS
from tests.samples import ODD_ROUGHS
from tests.samples import ODD_TARIFFS
from tests.samples import ONE as LAYING
from tests.samples import TARIFF
from tests.samples import TWO


class ConventionsTest(unittest.TestCase):
    def test_no_function_is_left_out(self):
        listed = (
            "is_account is_manner line bills_of payments_of as_of struck changed joined is_laying laid opens waits overlaps"
            " payers paid_by moved owed waiting statement paid_day aged owed_days never_more more_day cost cheapest dearest"
            " dunned spread is_tariff charge tariff_cost cost_line akin never_dearer dearer_grace crossings exchanged"
            " exchanges judge_exchanges prices judge_prices cheaper is_rough pair_range sure_pairs possible_pairs open_range"
            " owed_range with_pair sharper entered_so pairs_in order_range least_order greatest_order sure_in_any same_in_any"
            " order_counts order_reason two_orders parting late_range firm late_for late_open_range fixed_pairs moved_by"
            " is_shows show_bar paid_ranges between_ranges payments_for shows_of is_standing rise owed_on waiting_on until"
            " bill_at payment_at pair_of payers_between paid_off always_within first_late rooms worst_wait greatest_owed"
            " clear_from unlike_day least_payment is_history true_account journal origins closed_day reports late_days"
            " moved_entries balance least_account same_balance closings_back counts_back first_count"
        )
        self.assertEqual([call.__name__ for call, _ in CALLS], listed.split())

    def test_by_position_and_by_name(self):
        for call, told in CALLS:
            with self.subTest(call.__name__):
                self.assertEqual(list(inspect.signature(call).parameters), list(told))
                answer = call(*told.values())
                self.assertEqual(call(**told), answer)
                self.assertEqual(call(**dict(reversed(list(told.items())))), answer)
                self.assertIs(type(call(**told)), type(answer))

    def test_each_function_is_defined_where_the_interface_lists_it(self):
        for call, _ in CALLS:
            self.assertTrue(inspect.isfunction(call))
            home = HOMES[call.__module__.split(".")[1]]
            self.assertIs(getattr(home, call.__name__), call)

    def test_arguments_are_as_before(self):
        for call, told in CALLS:
            before = copy.deepcopy(told)
            call(**told)
            self.assertEqual(told, before)
        value = [list(row) for row in LAYING] + [["odd", [1, 2]]]
        before = copy.deepcopy(value)
        layings.is_laying(EXAMPLE, value)
        entries.is_account(value)
        entries.is_manner(value)
        tariffs.is_tariff(value)
        tariffs.judge_exchanges(EXAMPLE, TWO, value)
        tariffs.judge_prices(EXAMPLE, TWO, TARIFF, (value, value))
        roughs.is_rough(value)
        shows.is_shows(BILLS, value)
        standing.is_standing(value)
        closings.is_history(value)
        self.assertEqual(value, before)

    def test_lists_are_new(self):
        for call, told in CALLS:
            with self.subTest(call.__name__):
                answer = call(**told)
                kept = copy.deepcopy(answer)
                spoiled(answer)
                self.assertEqual(call(**told), kept)

    def test_answers_are_lists_or_tuples_as_the_interface_says(self):
        tuples = (
            "as_of", "struck", "changed", "joined", "spread", "prices", "pair_range", "open_range", "owed_range",
            "with_pair", "entered_so", "order_range", "least_order", "greatest_order", "order_reason", "two_orders",
            "parting", "late_range", "late_for", "late_open_range", "show_bar", "payments_for", "shows_of", "rise", "until",
            "bill_at", "payment_at", "payers_between", "worst_wait", "greatest_owed", "true_account", "journal",
            "least_account", "closings_back",
        )
        numbers = (
            "owed", "waiting", "paid_day", "more_day", "cost", "charge", "tariff_cost", "dearer_grace", "firm", "owed_on",
            "waiting_on", "pair_of", "paid_off", "first_late", "clear_from", "unlike_day", "least_payment", "closed_day",
            "balance", "first_count",
        )
        told_so = (
            "is_account", "is_manner", "is_laying", "never_more", "is_tariff", "akin", "never_dearer", "judge_exchanges",
            "judge_prices", "is_rough", "order_counts", "is_shows", "is_standing", "always_within", "is_history",
            "same_balance",
        )
        for call, told in CALLS:
            kinds = [(tuple, tuples), (int, numbers), (bool, told_so)]
            kind = ([kind for kind, names in kinds if call.__name__ in names] + [list])[0]
            self.assertIs(type(call(**told)), kind, call.__name__)

    def test_the_table_of_errors(self):
        for call, told in CALLS:
            for name in told:
                if name == "value":
                    continue
                error, wrong = wrong_for(call, told, name)
                for value in wrong:
                    with self.subTest(call.__name__, parameter=name, value=value):
                        with self.assertRaises(errors.BillError) as caught:
                            call(**{**told, name: value})
                        self.assertIs(type(caught.exception), error)

    def test_of_two_wrong_arguments_the_first_one_is_told(self):
        for call, told in CALLS:
            names = [name for name in told if name != "value"]
            pairs = [(one, two) for at, one in enumerate(names) for two in names[at + 1:]]
            for one, two in pairs:
                error, wrong = wrong_for(call, told, one)
                for value in (None, wrong[-1]):
                    both = {**told, one: value, two: wrong_for(call, told, two)[1][-1]}
                    with self.subTest(call.__name__, wrong=(one, two)):
                        with self.assertRaises(errors.BillError) as caught:
                            call(**both)
                        self.assertIs(type(caught.exception), error)

    def test_of_wrong_arguments_all_told_the_first_one_is_told(self):
        for call, told in CALLS:
            names = [name for name in told if name != "value"]
            for at, name in enumerate(names):
                wrong = {other: None for other in told if other == "value" or other in names[at:]}
                with self.assertRaises(errors.BillError) as caught:
                    call(**{**told, **wrong})
                self.assertIs(type(caught.exception), wrong_for(call, told, name)[0])

    def test_not_akin_comes_behind_the_errors_of_both_layings(self):
        for call in (tariffs.never_dearer, tariffs.dearer_grace):
            self.assertRaises(errors.NotAkin, call, EXAMPLE, LAYING, LEAST)
            for wrong in ODD_LAYINGS:
                self.assertRaises(errors.InvalidLaying, call, EXAMPLE, LEAST, wrong)
                self.assertRaises(errors.InvalidLaying, call, EXAMPLE, wrong, LEAST)

    def test_by_entered_comes_at_the_place_of_the_manner(self):
        self.assertRaises(errors.InvalidManner, days.paid_day, EXAMPLE, ("entered", "oldest"), None)
        self.assertRaises(errors.InvalidManner, charges.dunned, EXAMPLE, ("entered", "oldest"), None)
        self.assertRaises(errors.InvalidAccount, charges.dunned, None, ("entered", "oldest"), None)

    def test_a_wrong_account_is_told_ahead_of_any_value(self):
        for value in ODD + (LAYING,):
            self.assertRaises(errors.InvalidAccount, layings.is_laying, list(EXAMPLE), value)

    def test_what_tells_whether_is_true_or_false_for_any_value(self):
        odd = [ODD_ACCOUNTS, ODD_MANNERS, ODD_LAYINGS, ODD_KINDS, ODD_TARIFFS, ODD_EXCHANGES, ODD_ORDERS, ODD_ROUGHS]
        odd += [ODD_SHOWS, ODD_STANDINGS, ODD_HISTORIES]
        for value in [value for values in odd for value in values]:
            self.assertIs(type(entries.is_account(value)), bool)
            self.assertIs(type(entries.is_manner(value)), bool)
            self.assertIs(type(layings.is_laying(EXAMPLE, value)), bool)
            self.assertIs(type(tariffs.is_tariff(value)), bool)
            self.assertIs(type(tariffs.judge_exchanges(EXAMPLE, TWO, value)), bool)
            self.assertIs(type(tariffs.judge_prices(EXAMPLE, TWO, TARIFF, value)), bool)
            self.assertIs(type(roughs.is_rough(value)), bool)
            self.assertIs(type(shows.is_shows(BILLS, value)), bool)
            self.assertIs(type(standing.is_standing(value)), bool)
            self.assertIs(type(closings.is_history(value)), bool)

    def test_a_wrong_account_or_laying_is_told_ahead_of_any_value_that_is_judged(self):
        for value in (None, [EXCHANGE], ([0, 1], [2, 3])):
            self.assertRaises(errors.InvalidAccount, tariffs.judge_exchanges, MIXED, None, value)
            self.assertRaises(errors.InvalidLaying, tariffs.judge_exchanges, EXAMPLE, None, value)
            self.assertRaises(errors.InvalidLaying, tariffs.judge_prices, EXAMPLE, None, None, value)
            self.assertRaises(errors.InvalidTariff, tariffs.judge_prices, EXAMPLE, TWO, None, value)

    def test_nothing_is_raised_for_limits_of_use(self):
        account = tuple([("bill", 10 ** 45 + k, 10 ** 60) for k in range(50)]) + (("pay", -10 ** 45, 10 ** 59),)
        self.assertEqual(layings.laid(account, OLDEST), [(0, 50, 10 ** 59)])
        self.assertEqual(days.owed(account, 10 ** 46), 50 * 10 ** 60 - 10 ** 59)
        self.assertEqual(len(days.aged(account, OLDEST, 10 ** 45, tuple(range(60)))), 61)
        laying = layings.laid(account, OLDEST)
        self.assertEqual(charges.cost(account, laying, ("late", 10 ** 50)), 0)
        self.assertEqual(tariffs.charge((10 ** 50, tuple([(k, 10 ** 50) for k in range(30)])), 0), 0)
        self.assertEqual(tariffs.cheaper(account, laying, (1, ())), None)
        self.assertEqual(orders.order_range(account, 3, 50), (0, 10 ** 59))
        rough = (("pay", -10 ** 45, 1, 10 ** 60),) + (("bill", 10 ** 45, 1, 10 ** 60),) * 50
        self.assertEqual(roughs.pair_range(rough, 50, 0), (0, 10 ** 60 - 49))


if __name__ == "__main__":
    unittest.main()
