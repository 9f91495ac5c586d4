"""The calls that tell and change nothing: places 15 to 19 and 24."""

from lentstretch.choosing import open_stretches
from lentstretch.keeping import class_of, is_in_hole, is_live, is_over, is_resting, is_within
from lentstretch.refusals import NO_SUBNET, NOT_THERE
from lentstretch.state import stands


def option_value(kept, subnet_id, client, code):
    for scope, who in ((3, client), (1, subnet_id), (2, class_of(kept, client)), (0, 0)):
        value = kept.options.get((scope, who, code))
        if value is not None:
            return value
    return None


def options(server, subnet_id, client, codes):
    if subnet_id not in server.kept.subnets:
        return [NO_SUBNET]
    told = []
    for code in codes:
        value = option_value(server.kept, subnet_id, client, code)
        if value is None:
            told.append(0)
        else:
            told.extend([1, len(value)] + value)
    return told


def record_row(record):
    return [record.address, record.client, record.number, record.end, record.kind]


def tell_rows(rows):
    told = [len(rows)]
    for row in rows:
        told.extend(row)
    return told


def lease(server, address):
    record = server.kept.records.get(address)
    if record is None:
        return [NOT_THERE]
    return record_row(record)


# A row begins with the address, and no two have the same: sorted rows are rows by address.
def leases(server, client):
    return tell_rows(sorted([record_row(one) for one in server.kept.records.values() if one.client == client]))


def ending(server, upto, most):
    live = [record for record in server.kept.records.values() if is_live(record, server.now)]
    early = sorted([record for record in live if record.end <= upto], key=lambda record: (record.end, record.address))
    return tell_rows([record_row(record) for record in early[:most]])


def standing_offers(server):
    return [address for address, offer in server.offers.items() if stands(server, offer)]


# Subnets may have billions of addresses, so what is taken is counted, not what is left.
def count_untouched(server, subnet):
    taken = dict(server.kept.reserved)
    for record in server.kept.records.values():
        if not is_over(record, server.now):
            taken[record.address] = True
    for address in standing_offers(server):
        taken[address] = True
    within = [address for address in taken if is_within(subnet, address) and not is_in_hole(subnet, address)]
    return sum([stop - start + 1 for start, stop in open_stretches(subnet)]) - len(within)


def usage(server, subnet_id):
    subnet = server.kept.subnets.get(subnet_id)
    if subnet is None:
        return [NO_SUBNET]
    records = [record for record in server.kept.records.values() if is_within(subnet, record.address)]
    return [
        len([record for record in records if is_live(record, server.now)]),
        len([record for record in records if is_resting(record, server.now)]),
        len([record for record in records if is_over(record, server.now)]),
        len([address for address in standing_offers(server) if is_within(subnet, address)]),
        count_untouched(server, subnet),
    ]


def offers(server):
    return tell_rows([[at, server.offers[at].client, server.offers[at].till] for at in sorted(standing_offers(server))])


def tell(server, place, numbers, codes):
    if place == 15:
        return options(server, numbers[0], numbers[1], codes)
    if place == 16:
        return lease(server, numbers[0])
    if place == 17:
        return leases(server, numbers[0])
    if place == 18:
        return ending(server, numbers[0], numbers[1])
    if place == 19:
        return usage(server, numbers[0])
    return offers(server)
