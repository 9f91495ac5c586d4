"""Calls as the interface lays them, and their answers call by call."""

from lentstretch.server import answers

TOP = 2 ** 62
LOWEST = -(2 ** 63)
HIGHEST = 2 ** 63 - 1
MOST_ADDRESS = 2 ** 32 - 1
MOST_CLIENT = 2 ** 48 - 1


def begin(room=1000000, records=4096, hold=60):
    return [0, room, records, hold]


def tick(n):
    return [1, n]


def subnet(ident=1, first=10, last=19, least=5, usual=10, most=100, rest=7):
    return [2, ident, first, last, least, usual, most, rest]


def hole(ident, first, last):
    return [3, ident, first, last]


def reserve(address, client):
    return [4, address, client]


def unreserve(address):
    return [5, address]


def class_of(client, cls):
    return [6, client, cls]


def limit(ident, cls, n):
    return [7, ident, cls, n]


def option(scope, who, code, value=()):
    return [8, scope, who, code, len(value), *value]


def unoption(scope, who, code):
    return [9, scope, who, code]


def discover(ident, client, wanted=-1, length=0):
    return [10, ident, client, wanted, length]


def request(client, address, length=0):
    return [11, client, address, length]


def renew(client, address, number, length=0):
    return [12, client, address, number, length]


def release(client, address, number):
    return [13, client, address, number]


def decline(client, address, number):
    return [14, client, address, number]


def options(ident, client, codes=()):
    return [15, ident, client, len(codes), *codes]


def lease(address):
    return [16, address]


def leases(client):
    return [17, client]


def ending(upto=TOP, most=64):
    return [18, upto, most]


def usage(ident=1):
    return [19, ident]


def journal():
    return [20]


def load(stored):
    return [21, len(stored), *stored]


def crash(k):
    return [22, k]


def compact():
    return [23]


def offers():
    return [24]


def lend(client, address, ident=1, length=0):
    """The two calls that lend a wanted address to a client."""
    return [discover(ident, client, address), request(client, address, length)]


def plain_sum(stored):
    total = 1
    for byte in stored:
        total = (total * 31 + byte + 1) % 65521
    return total


def sealed(kind, body):
    """A row of this kind around a body, with a sum that is right."""
    stored = bytes([kind, len(body)]) + bytes(body)
    return list(stored + plain_sum(stored).to_bytes(2, "big"))


# The bytes of each number of a row, its time among them, by the row's kind.
ROW_WIDTHS = {
    1: "8144" "8888", 2: "8144", 3: "846", 4: "84", 5: "861", 6: "8114", 7: "8161", 8: "8161", 9: "84688", 10: "848",
    11: "8488", 12: "846881", 13: "88",
}


def row(kind, at, *numbers, value=()):
    """A row by Python's own ways."""
    pairs = zip((at, *numbers), ROW_WIDTHS[kind], strict=True)
    return sealed(kind, b"".join(number.to_bytes(int(width), "big") for number, width in pairs) + bytes(value))


def joined(*rows):
    return [byte for one in rows for byte in one]


def split(given):
    found = []
    at = 0
    while at < len(given):
        size = given[at]
        found.append(given[at + 1:at + 1 + size])
        assert len(found[-1]) == size, given
        at += 1 + size
    return found


def ask(calls):
    """The answers of a list of calls, a list each."""
    flat = []
    for call in calls:
        flat.extend(call)
    found = split(answers(flat))
    assert len(found) == len(calls), (len(found), len(calls))
    return found


def last(calls, count=1):
    """The answers of the last calls alone: of one call its own, of several a list."""
    found = ask(calls)
    return found[-1] if count == 1 else found[-count:]
