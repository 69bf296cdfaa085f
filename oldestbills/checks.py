"""What values are, and the checks of parameters that raise the errors of the table."""

from oldestbills.errors import InvalidAccount
from oldestbills.errors import InvalidBill
from oldestbills.errors import InvalidDay
from oldestbills.errors import InvalidEdges
from oldestbills.errors import InvalidEntry
from oldestbills.errors import InvalidExchange
from oldestbills.errors import InvalidIndex
from oldestbills.errors import InvalidKind
from oldestbills.errors import InvalidLaying
from oldestbills.errors import InvalidManner
from oldestbills.errors import InvalidPayment
from oldestbills.errors import InvalidRough
from oldestbills.errors import InvalidSum
from oldestbills.errors import InvalidTariff

SEQUENCES = ("days", "entered")
CHOICES = ("oldest", "newest", "greatest", "least")


def is_integer(value):
    """Whether a value is an integer; True and False are none."""
    return isinstance(value, int) and not isinstance(value, bool)


def is_sum(value):
    """Whether a value is an integer from 1 on."""
    return isinstance(value, int) and not isinstance(value, bool) and value >= 1


def is_ascending(rows):
    """Whether each of the rows is less than the next one."""
    return all([rows[k] < rows[k + 1] for k in range(len(rows) - 1)])


def are_ascending_integers(rows):
    """Whether the rows are integers, each less than the next one."""
    # The kinds come first: values of unlike kinds cannot be compared.
    return all([is_integer(row) for row in rows]) and is_ascending(rows)


def has_entry_form(value):
    """Whether a value is an entry, as far as it can be told without the account."""
    # Each call looks at all entries of its accounts, so the lengths that come most often are first.
    if type(value) != tuple:
        return False
    if len(value) == 3:
        word, day, much = value
        return (word == "bill" or word == "pay") and is_integer(day) and is_sum(much)
    if len(value) == 4:
        word, day, much, bill = value
        return word == "named" and is_integer(day) and is_sum(much) and is_integer(bill)
    return len(value) == 1 and value[0] == "struck"


def names_its_bill(entries, entry):
    """Whether the bill that a payment names is a bill of these entries, of no later day."""
    return is_bill_index(entries, entry[3]) and entries[entry[3]][1] <= entry[1]


def fits_entry(account, value):
    """Whether any value is an entry that makes an account when it is put behind the others."""
    return has_entry_form(value) and (value[0] != "named" or names_its_bill(account, value))


def fits_account(value):
    """Whether any value is an account."""
    if type(value) != tuple or not all([has_entry_form(entry) for entry in value]):
        return False
    return all([names_its_bill(value, entry) for entry in value if entry[0] == "named"])


def fits_manner(value):
    """Whether any value is a manner."""
    if type(value) != tuple or len(value) != 2:
        return False
    return value[0] in SEQUENCES and value[1] in CHOICES


def is_index(entries, value):
    """Whether any value is the index of an entry that is not struck."""
    return is_integer(value) and 0 <= value < len(entries) and entries[value][0] != "struck"


def is_bill_index(entries, value):
    """Whether any value is the index of a bill."""
    return is_index(entries, value) and entries[value][0] == "bill"


def is_payment_index(entries, value):
    """Whether any value is the index of a payment, named or not."""
    return is_index(entries, value) and entries[value][0] != "bill"


def is_older(entries, index, other):
    """Whether the entry with this index is ahead of the other one on the line."""
    return (entries[index][1], index) < (entries[other][1], other)


def has_pair_form(account, row):
    """Whether any value is a tuple of the indexes of a bill and a payment and of a sum."""
    if type(row) != tuple or len(row) != 3:
        return False
    return is_bill_index(account, row[0]) and is_payment_index(account, row[1]) and is_sum(row[2])


def fits_laying(account, value):
    """Whether any value is a laying of the account, by whichever rule."""
    if type(value) != list or not all([has_pair_form(account, row) for row in value]):
        return False
    # Rows whose pairs ascend are ascending themselves, and no pair comes twice.
    if not is_ascending([(bill, payment) for bill, payment, much in value]):
        return False
    left = [sum_of(entry) for entry in account]
    for bill, payment, much in value:
        left[bill] = left[bill] - much
        left[payment] = left[payment] - much
    return all([rest >= 0 for rest in left])


def sum_of(entry):
    """The sum of an entry, 0 for a struck one."""
    return 0 if entry[0] == "struck" else entry[2]


def fits_kind(value):
    """Whether any value is a kind of charges."""
    if type(value) != tuple or len(value) == 0:
        return False
    if value[0] == "late":
        return len(value) == 2 and is_integer(value[1]) and value[1] >= 0
    return len(value) == 1 and (value[0] == "apart" or value[0] == "squares")


def is_integer_and_sum(value):
    """Whether any value is a tuple of an integer and an integer from 1 on."""
    return type(value) == tuple and len(value) == 2 and is_integer(value[0]) and is_sum(value[1])


def fits_tariff(value):
    """Whether any value is a tariff."""
    if type(value) != tuple or len(value) != 2 or not is_integer(value[0]) or type(value[1]) != tuple:
        return False
    return all([is_integer_and_sum(row) for row in value[1]]) and is_ascending([at for at, more in value[1]])


def fits_exchange(plain, sums, value):
    """Whether any value is an exchange in a laying, given as a dict of the sums of its pairs."""
    if type(value) != tuple or len(value) != 5 or not all([is_integer(part) for part in value]):
        return False
    bill, payment, other_bill, other_payment, much = value
    if (bill, payment) not in sums or (other_bill, other_payment) not in sums:
        return False
    if not is_older(plain, bill, other_bill) or not is_older(plain, other_payment, payment):
        return False
    return 1 <= much <= min(sums[(bill, payment)], sums[(other_bill, other_payment)])


def is_rough_entry(value):
    """Whether any value is an entry of a rough account."""
    if type(value) != tuple or len(value) != 4:
        return False
    word, day, least, greatest = value
    if word != "bill" and word != "pay":
        return False
    return is_integer(day) and is_sum(least) and is_integer(greatest) and least <= greatest


def fits_rough(value):
    """Whether any value is a rough account."""
    return type(value) == tuple and all([is_rough_entry(entry) for entry in value])


def fits_order(account, value):
    """Whether any value is a sequence of the account: a tuple of all its indexes, each once."""
    if type(value) != tuple or not all([is_integer(index) for index in value]):
        return False
    return sorted(value) == list(range(len(account)))


def check_account(account):
    """InvalidAccount unless it is an account."""
    if not fits_account(account):
        raise InvalidAccount("not an account")


def check_plain(plain):
    """InvalidAccount unless it is an account without named payments."""
    check_account(plain)
    if any([entry[0] == "named" for entry in plain]):
        raise InvalidAccount("an account with named payments")


def check_manner(manner):
    """InvalidManner unless it is a manner."""
    if not fits_manner(manner):
        raise InvalidManner("not a manner")


def check_days_manner(manner):
    """InvalidManner unless it is a manner that goes along the line."""
    check_manner(manner)
    if manner[0] != "days":
        raise InvalidManner("not a manner that goes along the line")


def check_day(day):
    """InvalidDay unless it is an integer."""
    if not is_integer(day):
        raise InvalidDay("not an integer")


def check_after(after):
    """InvalidDay unless it is an integer from 0 on."""
    check_day(after)
    if after < 0:
        raise InvalidDay("less than 0")


def check_sum(sum_here):
    """InvalidSum unless it is an integer from 1 on."""
    if not is_sum(sum_here):
        raise InvalidSum("not an integer from 1 on")


def check_sum_or_none(sum_here):
    """InvalidSum unless it is an integer from 0 on."""
    if not is_integer(sum_here) or sum_here < 0:
        raise InvalidSum("not an integer from 0 on")


def check_index(account, index):
    """InvalidIndex unless it is the index of an entry that is not struck."""
    if not is_index(account, index):
        raise InvalidIndex("not the index of an entry that is not struck")


def check_entry(account, entry):
    """InvalidEntry unless it is an entry that can be put behind the others."""
    if not fits_entry(account, entry):
        raise InvalidEntry("not an entry that can be put behind the others")


def check_bill(account, bill):
    """InvalidBill unless it is the index of a bill."""
    if not is_bill_index(account, bill):
        raise InvalidBill("not the index of a bill")


def check_payment(account, payment):
    """InvalidPayment unless it is the index of a payment."""
    if not is_payment_index(account, payment):
        raise InvalidPayment("not the index of a payment")


def check_edges(edges):
    """InvalidEdges unless it is an ascending tuple of integers."""
    if type(edges) != tuple or not are_ascending_integers(edges):
        raise InvalidEdges("not an ascending tuple of integers")


def check_laying(account, laying):
    """InvalidLaying unless it is a laying of the account."""
    if not fits_laying(account, laying):
        raise InvalidLaying("not a laying of the account")


def check_kind(kind):
    """InvalidKind unless it is a kind of charges."""
    if not fits_kind(kind):
        raise InvalidKind("not a kind of charges")


def check_tariff(tariff):
    """InvalidTariff unless it is a tariff."""
    if not fits_tariff(tariff):
        raise InvalidTariff("not a tariff")


def check_exchange(plain, sums, exchange):
    """InvalidExchange unless it is an exchange in the laying with these sums of its pairs."""
    if not fits_exchange(plain, sums, exchange):
        raise InvalidExchange("not an exchange in the laying")


def check_rough(rough):
    """InvalidRough unless it is a rough account."""
    if not fits_rough(rough):
        raise InvalidRough("not a rough account")


def check_order(account, order):
    """InvalidIndex unless it is a sequence of the account."""
    if not fits_order(account, order):
        raise InvalidIndex("not a sequence of the account")
