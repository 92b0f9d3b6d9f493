"""The family of logs: file systems that write records into slots in a circle (points 39 to 41)."""

from raisedwreck.errors import InvalidForm
from raisedwreck.forms import (cells_of, changes_of, check_file, check_number, check_value, disk_with, full_of,
                               guard_of, sketch_of)
from raisedwreck.machines import MOST_VALUES, Machine
from raisedwreck.sketches import sketch_with

HEAD = 0
NOTHING = 0


class LogForm:
    """A form of the family of logs."""

    def __init__(self, files, slots, alphabet):
        check_number(files, 1, 3)
        check_number(slots, 1, 5)
        check_number(alphabet, 1, 4)
        self.files = files
        self.slots = slots
        self.alphabet = alphabet
        if count_records(self) > MOST_VALUES:
            raise InvalidForm("a record would have too many values")


def count_records(form):
    """The number of the values of a record."""
    return 1 + form.files * (form.alphabet + 1)


def put_record(form, file, value):
    """The record that a file got a value."""
    return 1 + file * (form.alphabet + 1) + value


def remove_record(form, file):
    """The record that a file was removed."""
    return put_record(form, file, form.alphabet)


def slot_cell(slot):
    """The cell of the record of a slot."""
    return HEAD + 1 + slot


def slot_of_age(form, head, age):
    """The slot whose record has an age while the head is at a slot."""
    return (head - 1 - age) % form.slots


def log_cells(form):
    """The cells of the machine of a form."""
    return [("h", form.slots)] + cells_of("r", form.slots, count_records(form))


def log_machine(form):
    """The machine of a form."""
    deeds = []
    for slot in range(form.slots):
        for file in range(form.files):
            for value in range(form.alphabet):
                deeds.append(record_deed(form, f"p{slot}{file}{value}", slot, put_record(form, file, value)))
            deeds.append(record_deed(form, f"x{slot}{file}", slot, remove_record(form, file)))
    cells = log_cells(form)
    return Machine(cells, deeds, (1,) * len(cells))


def record_deed(form, name, slot, record):
    """The deed with a name that writes a record into a slot."""
    return (name, guard_of([(HEAD, slot)]), changes_of(recorded_pairs(form, slot, record)))


def recorded_pairs(form, slot, record):
    """The pairs of a cell and a value after a record was written into a slot."""
    return [(HEAD, (slot + 1) % form.slots), (slot_cell(slot), record)]


def log_files(form, disk):
    """The list of the pairs of a file and its value, for all files that have a value."""
    told = {}
    for age in range(form.slots):
        record = disk[slot_cell(slot_of_age(form, disk[HEAD], age))]
        if record != NOTHING:
            file, value = divmod(record - 1, form.alphabet + 1)
            told.setdefault(file, value)
    return [(file, told[file]) for file in sorted(told) if told[file] != form.alphabet]


def log_put(form, disk, file, value):
    """The disk after putting a value into a file."""
    check_file(form.files, file)
    check_value(form.alphabet, value)
    return disk_with(disk, recorded_pairs(form, disk[HEAD], put_record(form, file, value)))


def log_remove(form, disk, file):
    """The disk after removing a file."""
    check_file(form.files, file)
    return disk_with(disk, recorded_pairs(form, disk[HEAD], remove_record(form, file)))


def log_piece(form, file, value):
    """The piece that a disk has exactly if a file has a value."""
    check_file(form.files, file)
    check_value(form.alphabet, value)
    return [aged_sketch(form, file, value, head, age) for head in range(form.slots) for age in range(form.slots)]


def aged_sketch(form, file, value, head, age):
    """The sketch of the disks with a head on which the youngest record of a file has an age and gives a value."""
    own_records = sum([1 << put_record(form, file, any_value) for any_value in range(form.alphabet + 1)])
    others = ((1 << count_records(form)) - 1) & ~own_records
    masks = [(HEAD, 1 << head), (slot_cell(slot_of_age(form, head, age)), 1 << put_record(form, file, value))]
    masks.extend([(slot_cell(slot_of_age(form, head, younger)), others) for younger in range(age)])
    return sketch_with(full_of(log_cells(form)), masks)


def log_record(form, file, value):
    """The piece that a disk has exactly if some record says that a file got a value."""
    check_file(form.files, file)
    check_value(form.alphabet, value)
    record = put_record(form, file, value)
    return [sketch_of(log_cells(form), [(slot_cell(slot), record)]) for slot in range(form.slots)]
