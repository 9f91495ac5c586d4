"""The server's whole state, and how a row is written to it."""

from lentstretch.applying import apply_row
from lentstretch.bounds import MOST_TIME
from lentstretch.keeping import Kept
from lentstretch.refusals import NO_ROOM
from lentstretch.rows import row_bytes


class Offer:
    def __init__(self, client, till):
        self.client = client
        self.till = till


class Server:
    def __init__(self):
        self.begun = False
        self.wipe()

    def wipe(self):
        self.room = 0
        self.most_records = 0
        self.hold = 0
        self.now = 0
        self.kept = Kept()
        self.offers = {}
        self.journal = []

    def begin_anew(self, room, most_records, hold):
        self.wipe()
        self.begun = True
        self.room = room
        self.most_records = most_records
        self.hold = hold


def stands(server, offer):
    return server.now < offer.till


def time_from_now(server, length):
    return min(server.now + length, MOST_TIME)


def write(server, kind, numbers, value):
    row = row_bytes(kind, server.now, numbers, value)
    if len(server.journal) + len(row) > server.room:
        return NO_ROOM
    server.journal.extend(row)
    apply_row(server.kept, kind, server.now, numbers, value)
    return 0
