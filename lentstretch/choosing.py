"""Which address a client is offered in a subnet."""

from lentstretch.keeping import is_over, is_reserved_for_other, is_within, may_go
from lentstretch.state import stands


def is_offered_to_other(server, address, client):
    offer = server.offers.get(address)
    return offer is not None and offer.client != client and stands(server, offer)


def has_space_for_record(server):
    return len(server.kept.records) < server.most_records


def is_free(server, subnet, address, client):
    record = server.kept.records.get(address)
    if record is None and not has_space_for_record(server):
        return False
    if record is not None and not is_over(record, server.now):
        return False
    return may_go(server.kept, subnet, address, client) and not is_offered_to_other(server, address, client)


def free_reserved_addresses(server, subnet, client):
    reserved = server.kept.reserved
    own = [address for address in reserved if reserved[address] == client]
    return [address for address in own if is_free(server, subnet, address, client)]


def free_records(server, subnet, client):
    within = [record for record in server.kept.records.values() if is_within(subnet, record.address)]
    return [record for record in within if is_free(server, subnet, record.address, client)]


def open_stretches(subnet):
    found = []
    start = subnet.first
    for first, last in sorted(subnet.holes):
        if start < first:
            found.append((start, first - 1))
        start = max(start, last + 1)
    if start <= subnet.last:
        found.append((start, subnet.last))
    return found


# A subnet and its holes may have billions of addresses. Holes are leapt over whole, so the walk only passes
# addresses that a record, a reservation or an offer keeps from the client.
def least_new_address(server, subnet, client):
    if not has_space_for_record(server):
        return None
    kept = server.kept
    for start, stop in open_stretches(subnet):
        for address in range(start, stop + 1):
            if address in kept.records or is_reserved_for_other(kept, address, client):
                continue
            if not is_offered_to_other(server, address, client):
                return address
    return None


def greatest_number(records):
    return max(records, key=lambda record: record.number).address


def least_end(records):
    return min(records, key=lambda record: (record.end, record.address)).address


# None if there is no address for the client. A wanted address of -1 lies in no subnet, so it is never free.
def choose(server, subnet, client, wanted):
    reserved = free_reserved_addresses(server, subnet, client)
    if len(reserved) > 0:
        return min(reserved)
    if is_free(server, subnet, wanted, client):
        return wanted
    recorded = free_records(server, subnet, client)
    own = [record for record in recorded if record.client == client]
    if len(own) > 0:
        return greatest_number(own)
    address = least_new_address(server, subnet, client)
    if address is None and len(recorded) > 0:
        return least_end(recorded)
    return address
