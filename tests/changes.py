"""Papers and histories that differ from a right one in one place, for the tests of the judges."""


def changed_numbers(values, numbers):
    """All tuples in which one of the values is another one of the numbers, or is left out, or one more stands."""
    for at in range(len(values) + 1):
        yield values[:at] + (0,) + values[at:]
        yield values[:at] + values[at + 1:]
        for number in numbers:
            yield values[:at] + (number,) + values[at + 1:]


def changed_rows(rows, numbers):
    """All tuples of tuples in which one number is changed, or a row is left out or stands there once more."""
    for at, row in enumerate(rows):
        for new in changed_numbers(row, numbers):
            yield rows[:at] + (new,) + rows[at + 1:]
        yield rows[:at] + rows[at + 1:]
        yield rows[:at] + (row, row) + rows[at + 1:]
    yield rows + ((),)


def changed_tables(table, numbers):
    """All tables in which one entry is changed, or a row or an entry is left out or stands there once more."""
    for at, row in enumerate(table):
        for rows in ((), (row, row), (row[:-1],), (row + ((),),)):
            yield table[:at] + rows + table[at + 1:]
        for deed, entry in enumerate(row):
            for new in changed_numbers(entry, numbers):
                yield table[:at] + (row[:deed] + (new,) + row[deed + 1:],) + table[at + 1:]


def changed_sketches(machine, sketches):
    """All lists of sketches in which one mask is changed, one is left out, or the sketch of all disks is added."""
    for at, sketch in enumerate(sketches):
        for new in changed_numbers(sketch, range(-1, max(machine.full) + 2)):
            yield sketches[:at] + (new,) + sketches[at + 1:]
        yield sketches[:at] + sketches[at + 1:]
    yield sketches + (machine.full,)
