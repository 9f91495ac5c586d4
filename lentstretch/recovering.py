"""Reading back from bytes, and the calls that do so: places 21 and 22."""

from lentstretch.applying import apply_row
from lentstretch.fitting import does_row_apply
from lentstretch.keeping import Kept
from lentstretch.rows import LEASE, RECORD, read_row, row_size


# What the rows that were read back make of nothing, how many they are, and how many bytes they have.
class Recovery:
    def __init__(self):
        self.kept = Kept()
        self.row_count = 0
        self.byte_count = 0


def would_be_too_many(kept, row, most_records):
    is_new = row.kind in (LEASE, RECORD) and row.numbers[0] not in kept.records
    return is_new and len(kept.records) >= most_records


def may_be_applied(kept, row, most_records):
    return does_row_apply(kept, row) and not would_be_too_many(kept, row, most_records)


def read_back(stored, most_records):
    found = Recovery()
    row = read_row(stored, 0)
    while row is not None and may_be_applied(found.kept, row, most_records):
        apply_row(found.kept, row.kind, row.at, row.numbers, row.value)
        found.row_count = found.row_count + 1
        found.byte_count = found.byte_count + row_size(stored, found.byte_count)
        row = read_row(stored, found.byte_count)
    return found


def recover(server, stored):
    found = read_back(stored, server.most_records)
    server.kept = found.kept
    server.journal = stored[:found.byte_count]
    server.offers = {}
    return [found.row_count, found.byte_count]


def load(server, stored):
    answer = recover(server, stored)
    server.now = max(server.now, server.kept.latest)
    return answer


def crash(server, lost):
    return recover(server, server.journal[:len(server.journal) - lost])
