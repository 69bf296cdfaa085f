"""What a history leads to: the true account, and the journal that is led beside it."""

from oldestbills.checks import has_entry_form
from oldestbills.checks import is_index
from oldestbills.checks import is_integer
from oldestbills.checks import is_sum
from oldestbills.days import balance_as_of
from oldestbills.days import open_as_of
from oldestbills.entries import replaced

OTHER_WORDS = {"bill": "pay", "pay": "bill"}


class Course:
    """What some deeds have led to. It is never changed: each deed leads to another one."""

    def __init__(self, entries, rows, roots, posts, closes):
        # The true account; the journal, and where each of its entries comes from.
        self.entries = entries
        self.rows = rows
        self.roots = roots
        # For each true entry the index of its post in the journal.
        self.posts = posts
        # The days that were closed, in their sequence.
        self.closes = closes


def first_course():
    """What no deeds lead to."""
    return Course((), (), (), (), ())


def course_of(value):
    """What any value leads to if it is a history, else None."""
    if type(value) != tuple:
        return None
    course = first_course()
    for deed in value:
        if not fits_course(course, deed):
            return None
        course = course_behind(course, deed)
    return course


def fits_course(course, value):
    """Whether any value is a deed that can be done then."""
    if type(value) != tuple or len(value) < 2:
        return False
    if value[0] == "strike":
        return len(value) == 2 and is_index(course.entries, value[1])
    if value[0] == "change" and len(value) == 4:
        return is_index(course.entries, value[1]) and is_integer(value[2]) and is_sum(value[3])
    if value[0] == "close":
        return len(value) == 2 and is_integer(value[1]) and is_open_day(course, value[1])
    return len(value) == 3 and has_entry_form(value)


def last_close(course):
    """The closed day, None if there is none."""
    return course.closes[-1] if len(course.closes) > 0 else None


def is_open_day(course, day):
    """Whether a day is greater than the closed day."""
    return len(course.closes) == 0 or day > course.closes[-1]


def posting_day(course, day):
    """The day on which an entry of a day is posted."""
    return day if is_open_day(course, day) else last_close(course) + 1


def course_behind(course, deed):
    """What a deed that can be done leads to."""
    if deed[0] == "strike":
        gone = without_post(course, deed[1])
        entries = replaced(gone.entries, deed[1], ("struck",))
        return Course(entries, gone.rows, gone.roots, gone.posts, gone.closes)
    if deed[0] == "change":
        _, index, day, much = deed
        return with_post(without_post(course, index), index, (course.entries[index][0], day, much))
    if deed[0] == "close":
        return Course(course.entries, course.rows, course.roots, course.posts, course.closes + (deed[1],))
    return with_post(course, len(course.entries), deed)


def with_post(course, index, entry):
    """The course with this true entry, behind the others or in the place of one, and its post."""
    word, day, much = entry
    entries = replaced(course.entries, index, entry)
    posts = replaced(course.posts, index, len(course.rows))
    rows = course.rows + ((word, posting_day(course, day), much),)
    return Course(entries, rows, course.roots + (("post", index),), posts, course.closes)


def without_post(course, index):
    """The course with the post of a true entry struck or, in closed days, reversed."""
    post = course.posts[index]
    word, day, much = course.rows[post]
    if is_open_day(course, day):
        rows = replaced(course.rows, post, ("struck",))
        return Course(course.entries, rows, course.roots, course.posts, course.closes)
    rows = course.rows + ((OTHER_WORDS[word], last_close(course) + 1, much),)
    return Course(course.entries, rows, course.roots + (("reversal", index),), course.posts, course.closes)


def report_of(course, day):
    """The report of the close of a day: what was reported stays, so any later course tells it, too."""
    return day, balance_as_of(course.rows, day), open_as_of(course.rows, ("days", "oldest"), day)
