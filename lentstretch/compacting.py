"""The journal made anew from what is kept: place 23."""

from lentstretch.refusals import NO_ROOM
from lentstretch.rows import CLASS, COUNT, HOLE, LIMIT, OPTION, RECORD, RESERVATION, Row, SUBNET, row_bytes


def subnet_numbers(subnet):
    return [subnet.ident, subnet.first, subnet.last, subnet.least, subnet.usual, subnet.most, subnet.rest]


def subnet_rows(kept):
    return [Row(SUBNET, kept.latest, subnet_numbers(kept.subnets[ident]), []) for ident in sorted(kept.subnets)]


def hole_rows(kept):
    found = []
    for ident in sorted(kept.subnets):
        for first, last in kept.subnets[ident].holes:
            found.append(Row(HOLE, kept.latest, [ident, first, last], []))
    return found


def reservation_rows(kept):
    return [Row(RESERVATION, kept.latest, [address, kept.reserved[address]], []) for address in sorted(kept.reserved)]


def class_rows(kept):
    return [Row(CLASS, kept.latest, [client, kept.classes[client]], []) for client in sorted(kept.classes)]


def limit_rows(kept):
    return [Row(LIMIT, kept.latest, [key[0], key[1], kept.limits[key]], []) for key in sorted(kept.limits)]


def option_rows(kept):
    return [Row(OPTION, kept.latest, list(key), kept.options[key]) for key in sorted(kept.options)]


def record_rows(kept):
    found = []
    for address in sorted(kept.records):
        record = kept.records[address]
        found.append(Row(RECORD, kept.latest, [address, record.client, record.number, record.end, record.kind], []))
    return found


def kept_rows(kept):
    rows = subnet_rows(kept) + hole_rows(kept) + reservation_rows(kept) + class_rows(kept)
    rows = rows + limit_rows(kept) + option_rows(kept) + record_rows(kept)
    return rows + [Row(COUNT, kept.latest, [kept.count], [])]


def compact(server):
    stored = []
    for row in kept_rows(server.kept):
        stored.extend(row_bytes(row.kind, row.at, row.numbers, row.value))
    if len(stored) > server.room:
        return [NO_ROOM]
    server.journal = stored
    return [len(stored)]
