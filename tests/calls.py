"""Each function of the interface with one call of it, and the table of errors of [2]."""

from oldestbills import charges
from oldestbills import closings
from oldestbills import days
from oldestbills import entries
from oldestbills import errors
from oldestbills import latecomers
from oldestbills import layings
from oldestbills import orders
from oldestbills import roughs
from oldestbills import shows
from oldestbills import standing
from oldestbills import tariffs
from tests.helpers import EXAMPLE
from tests.helpers import MIXED
from tests.helpers import ODD_ACCOUNTS
from tests.helpers import ODD_DAYS
from tests.helpers import ODD_EDGES
from tests.helpers import ODD_ENTRIES
from tests.helpers import ODD_MANNERS
from tests.helpers import ODD_SUMS
from tests.helpers import OLDEST
from tests.helpers import odd_indexes
from tests.kinds import BILLS
from tests.kinds import COUNTED
from tests.kinds import HISTORY
from tests.kinds import ODD_BILLS
from tests.kinds import ODD_DAY_LISTS
from tests.kinds import ODD_EVERIES
from tests.kinds import ODD_HISTORIES
from tests.kinds import ODD_NUMBERS
from tests.kinds import ODD_SHOWN
from tests.kinds import ODD_SHOWS
from tests.kinds import ODD_STANDINGS
from tests.kinds import SHOWN
from tests.kinds import SHOWS
from tests.kinds import STANDING
from tests.samples import ODD_EXCHANGES
from tests.samples import ODD_KINDS
from tests.samples import ODD_LAYINGS
from tests.samples import ODD_ORDERS
from tests.samples import ODD_ROUGHS
from tests.samples import ODD_TARIFFS
from tests.samples import ONE as LAYING
from tests.samples import ROUGH
from tests.samples import TARIFF
from tests.samples import TWO

LATE = ("late", 1)
EXCHANGE = (0, 2, 1, 3, 4)

# Each function of the interface with one call of it, by names in the order of the signature.
CALLS = (
    (entries.is_account, {"value": MIXED}),
    (entries.is_manner, {"value": OLDEST}),
    (entries.line, {"account": MIXED}),
    (entries.bills_of, {"account": MIXED}),
    (entries.payments_of, {"account": MIXED}),
    (entries.as_of, {"account": MIXED, "day": 3}),
    (entries.struck, {"account": MIXED, "index": 6}),
    (entries.changed, {"account": MIXED, "index": 4, "day": 5, "sum_here": 6}),
    (entries.joined, {"account": EXAMPLE, "other_account": MIXED}),
    (layings.is_laying, {"account": EXAMPLE, "value": LAYING}),
    (layings.laid, {"account": MIXED, "manner": OLDEST}),
    (layings.opens, {"account": MIXED, "manner": OLDEST}),
    (layings.waits, {"account": MIXED, "manner": OLDEST}),
    (layings.overlaps, {"plain": EXAMPLE}),
    (layings.payers, {"account": MIXED, "manner": OLDEST, "bill": 0}),
    (layings.paid_by, {"account": MIXED, "manner": OLDEST, "payment": 1}),
    (layings.moved, {"account": MIXED, "other_account": EXAMPLE, "manner": OLDEST}),
    (days.owed, {"account": MIXED, "day": 3}),
    (days.waiting, {"account": MIXED, "day": 3}),
    (days.statement, {"account": MIXED, "manner": OLDEST, "day": 3}),
    (days.paid_day, {"account": MIXED, "manner": OLDEST, "bill": 0}),
    (days.aged, {"account": MIXED, "manner": OLDEST, "day": 3, "edges": (1, 2)}),
    (days.owed_days, {"account": MIXED}),
    (days.never_more, {"account": MIXED, "other_account": EXAMPLE}),
    (days.more_day, {"account": MIXED, "other_account": EXAMPLE}),
    (charges.cost, {"account": EXAMPLE, "laying": TWO, "kind": LATE}),
    (charges.cheapest, {"plain": EXAMPLE, "laying": TWO}),
    (charges.dearest, {"plain": EXAMPLE, "laying": TWO}),
    (charges.dunned, {"account": MIXED, "manner": OLDEST, "after": 2}),
    (charges.spread, {"plain": EXAMPLE, "laying": TWO, "kind": LATE}),
    (tariffs.is_tariff, {"value": TARIFF}),
    (tariffs.charge, {"tariff": TARIFF, "delay": 3}),
    (tariffs.tariff_cost, {"account": EXAMPLE, "laying": TWO, "tariff": TARIFF}),
    (tariffs.cost_line, {"account": EXAMPLE, "laying": TWO}),
    (tariffs.akin, {"account": EXAMPLE, "laying": TWO, "other_laying": LAYING}),
    (tariffs.never_dearer, {"plain": EXAMPLE, "laying": TWO, "other_laying": LAYING}),
    (tariffs.dearer_grace, {"plain": EXAMPLE, "laying": TWO, "other_laying": LAYING}),
    (tariffs.crossings, {"plain": EXAMPLE, "laying": TWO}),
    (tariffs.exchanged, {"plain": EXAMPLE, "laying": TWO, "exchange": EXCHANGE}),
    (tariffs.exchanges, {"plain": EXAMPLE, "laying": TWO}),
    (tariffs.judge_exchanges, {"plain": EXAMPLE, "laying": TWO, "value": [EXCHANGE]}),
    (tariffs.prices, {"plain": EXAMPLE, "laying": LAYING, "tariff": TARIFF}),
    (tariffs.judge_prices, {"plain": EXAMPLE, "laying": LAYING, "tariff": TARIFF, "value": ([0, 1], [2, 3])}),
    (tariffs.cheaper, {"plain": EXAMPLE, "laying": TWO, "tariff": TARIFF}),
    (roughs.is_rough, {"value": ROUGH}),
    (roughs.pair_range, {"rough": ROUGH, "bill": 1, "payment": 2}),
    (roughs.sure_pairs, {"rough": ROUGH}),
    (roughs.possible_pairs, {"rough": ROUGH}),
    (roughs.open_range, {"rough": ROUGH, "bill": 1}),
    (roughs.owed_range, {"rough": ROUGH, "day": 2}),
    (roughs.with_pair, {"rough": ROUGH, "bill": 1, "payment": 2, "sum_here": 0}),
    (roughs.sharper, {"rough": ROUGH, "bill": 1, "payment": 2, "sum_here": 3}),
    (orders.entered_so, {"account": EXAMPLE, "order": (2, 1, 0, 3)}),
    (orders.pairs_in, {"plain": EXAMPLE, "order": (2, 1, 0, 3)}),
    (orders.order_range, {"plain": EXAMPLE, "bill": 0, "payment": 2}),
    (orders.least_order, {"plain": EXAMPLE, "bill": 0, "payment": 2}),
    (orders.greatest_order, {"plain": EXAMPLE, "bill": 0, "payment": 2}),
    (orders.sure_in_any, {"plain": EXAMPLE}),
    (orders.same_in_any, {"plain": (("bill", 1, 5), ("pay", 2, 3))}),
    (orders.order_counts, {"plain": EXAMPLE}),
    (orders.order_reason, {"plain": (("bill", 1, 5), ("pay", 2, 3))}),
    (orders.two_orders, {"plain": EXAMPLE}),
    (orders.parting, {"manner": OLDEST, "other_manner": ("entered", "newest")}),
    (latecomers.late_range, {"plain": EXAMPLE, "bill": 1, "payment": 2, "paid": 3, "billed": 2}),
    (latecomers.firm, {"plain": EXAMPLE, "bill": 1, "payment": 2}),
    (latecomers.late_for, {"plain": EXAMPLE, "bill": 1, "payment": 2, "sum_here": 0}),
    (latecomers.late_open_range, {"plain": EXAMPLE, "bill": 1, "paid": 1, "billed": 0}),
    (latecomers.fixed_pairs, {"plain": EXAMPLE, "day": 3}),
    (latecomers.moved_by, {"account": MIXED, "manner": OLDEST, "entry": ("named", 1, 3, 4)}),
    (shows.is_shows, {"bills": BILLS, "value": SHOWS}),
    (shows.show_bar, {"bills": BILLS, "shows": ((1, (1, 0)),)}),
    (shows.paid_ranges, {"bills": BILLS, "shows": SHOWS}),
    (shows.between_ranges, {"bills": BILLS, "shows": SHOWS}),
    (shows.payments_for, {"bills": BILLS, "shows": SHOWS}),
    (shows.shows_of, {"plain": EXAMPLE, "days": [1, 3]}),
    (standing.is_standing, {"value": STANDING}),
    (standing.rise, {"standing": STANDING}),
    (standing.owed_on, {"standing": STANDING, "day": 8}),
    (standing.waiting_on, {"standing": STANDING, "day": 8}),
    (standing.until, {"standing": STANDING, "day": 8}),
    (standing.bill_at, {"standing": STANDING, "number": 14}),
    (standing.payment_at, {"standing": STANDING, "number": 14}),
    (standing.pair_of, {"standing": STANDING, "number": 14, "other_number": 36}),
    (standing.payers_between, {"standing": STANDING, "number": 14}),
    (standing.paid_off, {"standing": STANDING, "number": 14}),
    (standing.always_within, {"standing": STANDING, "after": 14}),
    (standing.first_late, {"standing": STANDING, "after": 14}),
    (standing.rooms, {"standing": STANDING, "after": 14}),
    (standing.worst_wait, {"standing": STANDING + (("pay", 0, 7, 6),)}),
    (standing.greatest_owed, {"standing": STANDING + (("pay", 0, 7, 6),)}),
    (standing.clear_from, {"standing": STANDING[1:]}),
    (standing.unlike_day, {"standing": STANDING, "other_standing": STANDING[1:]}),
    (standing.least_payment, {"standing": STANDING, "first": 0, "every": 7, "after": 3}),
    (closings.is_history, {"value": HISTORY}),
    (closings.true_account, {"history": HISTORY}),
    (closings.journal, {"history": HISTORY}),
    (closings.origins, {"history": HISTORY}),
    (closings.closed_day, {"history": HISTORY}),
    (closings.reports, {"history": HISTORY}),
    (closings.late_days, {"history": HISTORY}),
    (closings.moved_entries, {"history": HISTORY}),
    (closings.balance, {"account": MIXED, "day": 3}),
    (closings.least_account, {"account": MIXED}),
    (closings.same_balance, {"account": MIXED, "other_account": EXAMPLE}),
    (closings.closings_back, {"plain": COUNTED, "shown_balances": SHOWN}),
    (closings.counts_back, {"plain": COUNTED, "shown_balances": SHOWN}),
    (closings.first_count, {"plain": COUNTED, "day": 2, "most": 5}),
)

HOMES = {
    "entries": entries, "layings": layings, "days": days, "charges": charges, "tariffs": tariffs, "roughs": roughs,
    "orders": orders, "latecomers": latecomers, "shows": shows, "standing": standing, "closings": closings,
}

# Where 0 may stand, too.
NO_SUMS_OR_NONE = [value for value in ODD_SUMS if type(value) is not int or value != 0]

TABLE = {
    "account": (errors.InvalidAccount, ODD_ACCOUNTS),
    "other_account": (errors.InvalidAccount, ODD_ACCOUNTS),
    "plain": (errors.InvalidAccount, ODD_ACCOUNTS + (MIXED,)),
    "rough": (errors.InvalidRough, [value for value in ODD_ROUGHS if value != ()]),
    "manner": (errors.InvalidManner, ODD_MANNERS),
    "other_manner": (errors.InvalidManner, ODD_MANNERS),
    "day": (errors.InvalidDay, ODD_DAYS),
    "delay": (errors.InvalidDay, ODD_DAYS),
    "after": (errors.InvalidDay, ODD_DAYS + (-1, -10 ** 39)),
    "sum_here": (errors.InvalidSum, ODD_SUMS),
    "edges": (errors.InvalidEdges, ODD_EDGES),
    "laying": (errors.InvalidLaying, ODD_LAYINGS),
    "other_laying": (errors.InvalidLaying, ODD_LAYINGS),
    "kind": (errors.InvalidKind, ODD_KINDS),
    "tariff": (errors.InvalidTariff, ODD_TARIFFS),
    "exchange": (errors.InvalidExchange, ODD_EXCHANGES),
    "order": (errors.InvalidIndex, ODD_ORDERS),
    "paid": (errors.InvalidSum, NO_SUMS_OR_NONE),
    "billed": (errors.InvalidSum, NO_SUMS_OR_NONE),
    "most": (errors.InvalidSum, NO_SUMS_OR_NONE),
    "entry": (errors.InvalidEntry, [entry for entry in ODD_ENTRIES if entry != ("named", 1, 2, 0)] + [("named", 1, 2, 1)]),
    "standing": (errors.InvalidStanding, ODD_STANDINGS),
    "other_standing": (errors.InvalidStanding, ODD_STANDINGS),
    "number": (errors.InvalidNumber, ODD_NUMBERS),
    "other_number": (errors.InvalidNumber, ODD_NUMBERS),
    "first": (errors.InvalidDay, ODD_DAYS),
    "every": (errors.InvalidEvery, ODD_EVERIES),
    "history": (errors.InvalidHistory, ODD_HISTORIES),
    "shown_balances": (errors.InvalidReports, ODD_SHOWN),
    "bills": (errors.InvalidBills, ODD_BILLS),
    "shows": (errors.InvalidShows, ODD_SHOWS),
    "days": (errors.InvalidDay, ODD_DAY_LISTS),
}
WORDS = {
    "index": (errors.InvalidIndex, ("bill", "pay", "named")),
    "bill": (errors.InvalidBill, ("bill",)),
    "payment": (errors.InvalidPayment, ("pay", "named")),
}


def wrong_for(call, told, name):
    """The error of the table for a parameter of a call, and the values that it is raised for."""
    if name in WORDS:
        error, words = WORDS[name]
        return error, odd_indexes(list(told.values())[0], words)
    if name == "sum_here" and call in (roughs.with_pair, latecomers.late_for):
        return errors.InvalidSum, NO_SUMS_OR_NONE
    return TABLE[name]


def spoiled(value):
    """Changes each list of an answer, also the ones inside."""
    if isinstance(value, (list, tuple)):
        for part in value:
            spoiled(part)
    if isinstance(value, list):
        value.append("spoiled")
