"""Calls as the interface lays them, and their answers call by call."""

from lentstretch.server import answers

TOP = 2 ** 62
LOWEST = -(2 ** 63)
HIGHEST = 2 ** 63 - 1
MOST_ADDRESS = 2 ** 32 - 1
MOST_CLIENT = 2 ** 48 - 1


def begin(room=1000000, records=4096, hold=60):
    return [0, room, records, hold]


def tick(n):
    return [1, n]


def subnet(ident=1, first=10, last=19, least=5, usual=10, most=100, rest=7):
    return [2, ident, first, last, least, usual, most, rest]


def hole(ident, first, last):
    return [3, ident, first, last]


def reserve(address, client):
    return [4, address, client]


def unreserve(address):
    return [5, address]


def class_of(client, cls):
    return [6, client, cls]


def limit(ident, cls, n):
    return [7, ident, cls, n]


def option(scope, who, code, value=()):
    return [8, scope, who, code, len(value), *value]


def unoption(scope, who, code):
    return [9, scope, who, code]


def discover(ident, client, wanted=-1, length=0):
    return [10, ident, client, wanted, length]


def request(client, address, length=0):
    return [11, client, address, length]


def renew(client, address, number, length=0):
    return [12, client, address, number, length]


def lend(client, address, ident=1, length=0):
    """The two calls that lend a wanted address to a client."""
    return [discover(ident, client, address), request(client, address, length)]


def split(given):
    found = []
    at = 0
    while at < len(given):
        size = given[at]
        found.append(given[at + 1:at + 1 + size])
        assert len(found[-1]) == size, given
        at += 1 + size
    return found


def ask(calls):
    """The answers of a list of calls, a list each."""
    flat = []
    for call in calls:
        flat.extend(call)
    found = split(answers(flat))
    assert len(found) == len(calls), (len(found), len(calls))
    return found


def last(calls, count=1):
    """The answers of the last calls alone: of one call its own, of several a list."""
    found = ask(calls)
    return found[-1] if count == 1 else found[-count:]
