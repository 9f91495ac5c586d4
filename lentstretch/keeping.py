"""What is kept (all that the journal can give back), and the words about it."""

LENT = 0
GIVEN_BACK = 1
RESTING = 2


class Subnet:
    def __init__(self, ident, first, last, least, usual, most, rest):
        self.ident = ident
        self.first = first
        self.last = last
        self.least = least
        self.usual = usual
        self.most = most
        self.rest = rest
        self.holes = []


class Record:
    def __init__(self, address, client, number, end, kind):
        self.address = address
        self.client = client
        self.number = number
        self.end = end
        self.kind = kind


class Kept:
    def __init__(self):
        self.latest = 0
        self.subnets = {}
        self.reserved = {}
        self.classes = {}
        self.limits = {}
        self.options = {}
        self.records = {}
        self.count = 0


def is_live(record, time):
    return record.kind == LENT and time < record.end


def is_over(record, time):
    return record.kind == GIVEN_BACK or record.end <= time


def is_resting(record, time):
    return record.kind == RESTING and time < record.end


def is_within(subnet, address):
    return subnet.first <= address <= subnet.last


def is_in_hole(subnet, address):
    for first, last in subnet.holes:
        if first <= address <= last:
            return True
    return False


def subnet_around(kept, address):
    for subnet in kept.subnets.values():
        if is_within(subnet, address):
            return subnet
    return None


def class_of(kept, client):
    return kept.classes.get(client, 0)


def is_reserved_for_other(kept, address, client):
    return kept.reserved.get(address, client) != client


def may_go(kept, subnet, address, client):
    if not is_within(subnet, address) or is_in_hole(subnet, address):
        return False
    return not is_reserved_for_other(kept, address, client)


def live_records(kept, subnet, time):
    return [record for record in kept.records.values() if is_within(subnet, record.address) and is_live(record, time)]


def standing_lease(kept, subnet, client, time):
    for record in kept.records.values():
        if record.client == client and is_live(record, time) and is_within(subnet, record.address):
            return record
    return None


def is_full(kept, subnet, class_number, time):
    limit = kept.limits.get((subnet.ident, class_number))
    if limit is None:
        return False
    live = live_records(kept, subnet, time)
    return len([record for record in live if class_of(kept, record.client) == class_number]) >= limit
