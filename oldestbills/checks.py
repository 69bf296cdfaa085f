"""What values are, and the checks of parameters that raise the errors of the table."""

from oldestbills.errors import InvalidAccount
from oldestbills.errors import InvalidBill
from oldestbills.errors import InvalidDay
from oldestbills.errors import InvalidEdges
from oldestbills.errors import InvalidIndex
from oldestbills.errors import InvalidManner
from oldestbills.errors import InvalidPayment
from oldestbills.errors import InvalidSum

SEQUENCES = ("days", "entered")
CHOICES = ("oldest", "newest", "greatest", "least")


def is_integer(value):
    """Whether a value is an integer; True and False are none."""
    return isinstance(value, int) and not isinstance(value, bool)


def is_sum(value):
    """Whether a value is an integer from 1 on."""
    return is_integer(value) and value >= 1


def is_ascending(rows):
    """Whether each of the rows is less than the next one."""
    return all([rows[k] < rows[k + 1] for k in range(len(rows) - 1)])


def has_entry_form(value):
    """Whether a value is an entry, as far as it can be told without the account."""
    if type(value) != tuple or len(value) == 0:
        return False
    if value[0] == "struck":
        return len(value) == 1
    if value[0] == "named":
        return len(value) == 4 and is_integer(value[1]) and is_sum(value[2]) and is_integer(value[3])
    if value[0] == "bill" or value[0] == "pay":
        return len(value) == 3 and is_integer(value[1]) and is_sum(value[2])
    return False


def names_its_bill(entries, entry):
    """Whether an entry names no bill, or a bill of these entries that is not of a later day."""
    if entry[0] != "named":
        return True
    return is_bill_index(entries, entry[3]) and entries[entry[3]][1] <= entry[1]


def fits_account(value):
    """Whether any value is an account."""
    if type(value) != tuple or not all([has_entry_form(entry) for entry in value]):
        return False
    return all([names_its_bill(value, entry) for entry in value])


def fits_manner(value):
    """Whether any value is a manner."""
    if type(value) != tuple or len(value) != 2:
        return False
    return value[0] in SEQUENCES and value[1] in CHOICES


def is_index(entries, value):
    """Whether any value is the index of an entry that is not struck."""
    return is_integer(value) and 0 <= value < len(entries) and entries[value][0] != "struck"


def is_bill_index(entries, value):
    """Whether any value is the index of a bill."""
    return is_index(entries, value) and entries[value][0] == "bill"


def is_payment_index(entries, value):
    """Whether any value is the index of a payment, named or not."""
    return is_index(entries, value) and entries[value][0] != "bill"


def check_account(account):
    """InvalidAccount unless it is an account."""
    if not fits_account(account):
        raise InvalidAccount("not an account")


def check_plain(plain):
    """InvalidAccount unless it is an account without named payments."""
    check_account(plain)
    if any([entry[0] == "named" for entry in plain]):
        raise InvalidAccount("an account with named payments")


def check_manner(manner):
    """InvalidManner unless it is a manner."""
    if not fits_manner(manner):
        raise InvalidManner("not a manner")


def check_days_manner(manner):
    """InvalidManner unless it is a manner that goes along the line."""
    check_manner(manner)
    if manner[0] != "days":
        raise InvalidManner("not a manner that goes along the line")


def check_day(day):
    """InvalidDay unless it is an integer."""
    if not is_integer(day):
        raise InvalidDay("not an integer")


def check_sum(sum_here):
    """InvalidSum unless it is an integer from 1 on."""
    if not is_sum(sum_here):
        raise InvalidSum("not an integer from 1 on")


def check_index(account, index):
    """InvalidIndex unless it is the index of an entry that is not struck."""
    if not is_index(account, index):
        raise InvalidIndex("not the index of an entry that is not struck")


def check_bill(account, bill):
    """InvalidBill unless it is the index of a bill."""
    if not is_bill_index(account, bill):
        raise InvalidBill("not the index of a bill")


def check_payment(account, payment):
    """InvalidPayment unless it is the index of a payment."""
    if not is_payment_index(account, payment):
        raise InvalidPayment("not the index of a payment")


def check_edges(edges):
    """InvalidEdges unless it is an ascending tuple of integers."""
    # The kinds come first: values of unlike kinds cannot be compared.
    if type(edges) != tuple or not all([is_integer(edge) for edge in edges]):
        raise InvalidEdges("not a tuple of integers")
    if not is_ascending(edges):
        raise InvalidEdges("not ascending")
