"""What comes again and again: rows (index, first, every, sum) that stand for things of this sum on these days.

All things of some rows stand on a line, by their days, those of one day by the indexes of their rows,
one behind the other, each as long as its sum. With sums of 1 the points of the line are their numbers.
"""


def counted(rows):
    """The same rows with sums of 1."""
    return [(index, first, every, 1) for index, first, every, much in rows]


def row_up_to(row, day):
    """What the things of one row come to up to a day."""
    index, first, every, much = row
    return 0 if day < first else much * ((day - first) // every + 1)


def sum_up_to(rows, day):
    """What all things come to up to a day."""
    return sum([row_up_to(row, day) for row in rows])


def sum_ahead_of(rows, index, day):
    """What all things come to that are ahead of those of this day and this index."""
    return sum([row_up_to(row, day if row[0] < index else day - 1) for row in rows])


def day_reaching(rows, total):
    """The least day up to which all things come to this total, an integer from 1 on."""
    low = min([first for index, first, every, much in rows])
    # Each row alone reaches it on its day.
    high = min([first + every * ((total - 1) // much) for index, first, every, much in rows])
    while low < high:
        middle = (low + high) // 2
        if sum_up_to(rows, middle) >= total:
            high = middle
        else:
            low = middle + 1
    return low


def thing_at(rows, point):
    """The tuple (index, day) of the thing whose stretch holds the point, an integer from 0 on."""
    day = day_reaching(rows, point + 1)
    reaching = [row for row in rows if sum_ahead_of(rows, row[0], day) + sum_on(row, day) > point]
    return reaching[0][0], day


def sum_on(row, day):
    """What a row comes to on a day alone."""
    return row_up_to(row, day) - row_up_to(row, day - 1)


def number_at(rows, point):
    """The number of the thing whose stretch holds the point."""
    index, day = thing_at(rows, point)
    return sum_ahead_of(counted(rows), index, day)


def days_before(rows, end):
    """The days less than the end that have things, ascending."""
    return sorted(set([day for row in rows for day in range(row[1], end, row[2])]))
