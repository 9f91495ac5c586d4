"""A plain model of the whole document, for comparison: it shares no code with the program.

What is kept is never changed: a row makes another one of it. All is in lists of tuples, and a subnet's addresses
are looked at one by one, so subnets have to be small.
"""

from helper import MOST_ADDRESS, MOST_CLIENT, ROW_WIDTHS, TOP, plain_sum, row

BYTE = (0, 255)
ADDRESS = (0, MOST_ADDRESS)
CLIENT = (0, MOST_CLIENT)
TIME = (0, TOP)
RANGES = [
    [(64, 1000000), (1, 4096), (1, 2147483648)], [TIME], [BYTE, ADDRESS, ADDRESS, TIME, TIME, TIME, TIME],
    [BYTE, ADDRESS, ADDRESS], [ADDRESS, CLIENT], [ADDRESS], [CLIENT, BYTE], [BYTE, BYTE, (0, 2 ** 32 - 1)],
    [(0, 3), CLIENT, BYTE], [(0, 3), CLIENT, BYTE], [BYTE, CLIENT, (-1, MOST_ADDRESS), TIME],
    [CLIENT, ADDRESS, TIME], [CLIENT, ADDRESS, TIME, TIME], [CLIENT, ADDRESS, TIME], [CLIENT, ADDRESS, TIME],
    [BYTE, CLIENT], [ADDRESS], [CLIENT], [TIME, (0, 64)], [BYTE], [], [], [(0, None)], [], [],
]
NAMES = (
    "begin tick subnet hole reserve unreserve class_of limit option unoption discover request renew release decline "
    "options lease leases ending usage journal load crash compact offers"
).split()
WITH_LIST = (8, 15, 21)


class Refused(Exception):
    pass


def refuse_if(condition, number):
    if condition:
        raise Refused(number)


def without(rows, *key):
    return [one for one in rows if one[:len(key)] != key]


def live(record, t):
    return record[4] == 0 and t < record[3]


def over(record, t):
    return record[4] == 1 or record[3] <= t


def read(stored):
    """Kind, time, numbers, value and size of the first row; None if there's none that can be read."""
    if len(stored) < 2 or not 1 <= stored[0] <= 13 or len(stored) < stored[1] + 4:
        return None
    body, total = bytes(stored[2:stored[1] + 2]), stored[stored[1] + 2:stored[1] + 4]
    if divmod(plain_sum(stored[:stored[1] + 2]), 256) != tuple(total):
        return None
    numbers = []
    for width in ROW_WIDTHS[stored[0]]:
        if len(body) < int(width):
            return None
        numbers.append(int.from_bytes(body[:int(width)], "big"))
        body = body[int(width):]
    if body and stored[0] != 7:
        return None
    return stored[0], numbers[0], numbers[1:], tuple(body), stored[1] + 4


class Kept:
    def __init__(self):
        self.latest, self.count = 0, 0
        self.subnets = []   # id, first, last, least, usual, most, rest
        self.holes = []     # id, first, last
        self.reserved = []  # address, client
        self.classes = []   # client, class
        self.limits = []    # id, class, number
        self.options = []   # scope, who, code, value
        self.records = []   # address, client, number, end, kind

    def after(self, kind, t, numbers, value=()):
        """What the row makes of it; None if the row doesn't apply."""
        if t < self.latest or t > TOP:
            return None
        changes = getattr(self, f"row_{kind}")(t, *numbers, *([tuple(value)] if kind == 7 else []))
        if changes is None:
            return None
        other = Kept()
        vars(other).update(vars(self))
        vars(other).update(changes)
        other.latest = t
        return other

    def subnet_of(self, address):
        return next((one for one in self.subnets if one[1] <= address <= one[2]), None)

    def subnet_by_id(self, ident):
        return next((one for one in self.subnets if one[0] == ident), None)

    def class_now(self, client):
        return dict(self.classes).get(client, 0)

    def record(self, address):
        return next((one for one in self.records if one[0] == address), None)

    def standing(self, one, client, t):
        found = [r for r in self.records if one[1] <= r[0] <= one[2] and r[1] == client and live(r, t)]
        assert len(found) < 2
        return found[0] if found else None

    def put(self, record):
        return {"records": without(self.records, record[0]) + [record], "count": max(self.count, record[2])}

    def row_1(self, t, ident, first, end, least, usual, most, rest):
        ok = self.subnet_by_id(ident) is None and len(self.subnets) < 64 and first <= end
        ok = ok and 1 <= least <= usual <= most <= TOP and 1 <= rest <= TOP
        ok = ok and all(end < one[1] or one[2] < first for one in self.subnets)
        return {"subnets": self.subnets + [(ident, first, end, least, usual, most, rest)]} if ok else None

    def row_2(self, t, ident, first, end):
        one = self.subnet_by_id(ident)
        ok = one and one[1] <= first <= end <= one[2] and len([each for each in self.holes if each[0] == ident]) < 64
        return {"holes": self.holes + [(ident, first, end)]} if ok else None

    def row_3(self, t, address, client):
        ok = self.subnet_of(address) and address not in dict(self.reserved) and len(self.reserved) < 1024
        return {"reserved": self.reserved + [(address, client)]} if ok else None

    def row_4(self, t, address):
        return {"reserved": without(self.reserved, address)} if address in dict(self.reserved) else None

    def row_5(self, t, client, cls):
        ok = self.class_now(client) != cls and (cls == 0 or self.class_now(client) != 0 or len(self.classes) < 1024)
        return {"classes": without(self.classes, client) + [(client, cls)] * (cls > 0)} if ok else None

    def row_6(self, t, ident, cls, number):
        rest = without(self.limits, ident, cls)
        ok = self.subnet_by_id(ident) and (rest != self.limits or len(rest) < 1024)
        return {"limits": rest + [(ident, cls, number)]} if ok else None

    def row_7(self, t, scope, who, code, value):
        rest = without(self.options, scope, who, code)
        ok = (scope == 0 and who == 0) or (scope in (1, 2) and who <= 255) or scope == 3
        ok = ok and len(value) <= 64 and (rest != self.options or len(rest) < 1024)
        return {"options": rest + [(scope, who, code, value)]} if ok else None

    def row_8(self, t, scope, who, code):
        rest = without(self.options, scope, who, code)
        return {"options": rest} if rest != self.options else None

    def row_9(self, t, address, client, number, end):
        one, record = self.subnet_of(address), self.record(address)
        if not one or not t < end <= TOP:
            return None
        if record and live(record, t) and record[1:3] == (client, number) and record[3] <= end:
            return {"records": without(self.records, address) + [(address, client, number, end, 0)]}
        ok = (not record or over(record, t)) and number == self.count + 1 <= TOP and not self.standing(one, client, t)
        return self.put((address, client, number, end, 0)) if ok else None

    def row_10(self, t, address, number):
        record = self.record(address)
        ok = record and live(record, t) and record[2] == number
        return {"records": without(self.records, address) + [(*record[:3], t, 1)]} if ok else None

    def row_11(self, t, address, number, end):
        record = self.record(address)
        ok = record and live(record, t) and record[2] == number and t < end <= TOP
        return {"records": without(self.records, address) + [(*record[:3], end, 2)]} if ok else None

    def row_12(self, t, address, client, number, end, kind):
        one = self.subnet_of(address)
        ok = one and not self.record(address) and 1 <= number <= TOP and number not in [r[2] for r in self.records]
        ok = ok and kind <= 2 and end <= TOP and (kind != 1 or end <= t)
        ok = ok and not (kind == 0 and t < end and self.standing(one, client, t))
        return self.put((address, client, number, end, kind)) if ok else None

    def row_13(self, t, count):
        return {"count": count} if self.count <= count <= TOP else None

    def rows(self):
        """What compact makes of it."""
        found = [(1, one) for one in sorted(self.subnets)]
        found += [(2, each) for one in sorted(self.subnets) for each in self.holes if each[0] == one[0]]
        found += [(3, one) for one in sorted(self.reserved)] + [(5, one) for one in sorted(self.classes)]
        found += [(6, one) for one in sorted(self.limits)] + [(7, one) for one in sorted(self.options)]
        found += [(12, one) for one in sorted(self.records)] + [(13, (self.count,))]
        stored = []
        for kind, one in found:
            stored += row(kind, self.latest, *(one[:3] if kind == 7 else one), value=one[3] if kind == 7 else ())
        return stored


def read_back(stored, most):
    """What is kept, how many rows, how many bytes."""
    kept, count, size = Kept(), 0, 0
    while True:
        found = read(stored[size:])
        other = found and kept.after(*found[:4])
        if not other or len(other.records) > most:
            return kept, count, size
        kept, count, size = other, count + 1, size + found[4]


class Model:
    def __init__(self):
        self.begun = False

    def call(self, place, numbers, listed):
        try:
            refuse_if(place != 0 and not self.begun, -1)
            for number, (least, most) in zip(numbers, RANGES[place], strict=True):
                refuse_if(number < least or number > (len(self.stored) if most is None else most), -2)
            refuse_if(len(listed) > (self.room if place == 21 else 64) or any(not 0 <= one <= 255 for one in listed), -2)
            return getattr(self, NAMES[place])(*numbers, *([listed] if place in WITH_LIST else []))
        except Refused as refusal:
            return [refusal.args[0]]

    def write(self, kind, *numbers, value=()):
        more = row(kind, self.now, *numbers, value=value)
        refuse_if(len(self.stored) + len(more) > self.room, -9)
        self.stored = self.stored + more
        self.kept = self.kept.after(kind, self.now, numbers, value)
        assert self.kept, "a row that a call writes always applies"
        return [0]

    def begin(self, room, records, hold):
        self.begun, self.room, self.most, self.hold, self.now = True, room, records, hold, 0
        self.kept, self.offered, self.stored = Kept(), [], []
        return [0]

    def tick(self, n):
        refuse_if(self.now + n > TOP, -3)
        self.now += n
        return [self.now]

    def subnet(self, ident, first, end, least, usual, most, rest):
        refuse_if(self.kept.subnet_by_id(ident), -7)
        refuse_if(len(self.kept.subnets) == 64, -5)
        refuse_if(end < first or least == 0 or usual < least or most < usual or rest == 0, -6)
        for one in self.kept.subnets:
            refuse_if(max(one[1], first) <= min(one[2], end), -10)
        return self.write(1, ident, first, end, least, usual, most, rest)

    def subnet_or_refuse(self, ident):
        one = self.kept.subnet_by_id(ident)
        refuse_if(not one, -4)
        return one

    def hole(self, ident, first, end):
        one = self.subnet_or_refuse(ident)
        refuse_if(len([each for each in self.kept.holes if each[0] == ident]) == 64, -5)
        refuse_if(not one[1] <= first <= end <= one[2], -6)
        return self.write(2, ident, first, end)

    def reserve(self, address, client):
        refuse_if(not self.kept.subnet_of(address), -4)
        refuse_if(address in dict(self.kept.reserved), -7)
        refuse_if(len(self.kept.reserved) == 1024, -5)
        return self.write(3, address, client)

    def unreserve(self, address):
        refuse_if(address not in dict(self.kept.reserved), -8)
        return self.write(4, address)

    def class_of(self, client, cls):
        refuse_if(self.kept.class_now(client) == cls, -7)
        refuse_if(cls != 0 and self.kept.class_now(client) == 0 and len(self.kept.classes) == 1024, -5)
        return self.write(5, client, cls)

    def limit(self, ident, cls, n):
        self.subnet_or_refuse(ident)
        refuse_if(len(without(self.kept.limits, ident, cls)) == 1024, -5)
        return self.write(6, ident, cls, n)

    def option(self, scope, who, code, value):
        refuse_if((scope == 0 and who > 0) or (scope in (1, 2) and who >= 256), -6)
        refuse_if(len(without(self.kept.options, scope, who, code)) == 1024, -5)
        return self.write(7, scope, who, code, value=value)

    def unoption(self, scope, who, code):
        refuse_if(without(self.kept.options, scope, who, code) == self.kept.options, -8)
        return self.write(8, scope, who, code)

    def in_hole(self, one, address):
        return any(ident == one[0] and first <= address <= end for ident, first, end in self.kept.holes)

    def may(self, one, address, client):
        reserved = dict(self.kept.reserved).get(address, client)
        return one[1] <= address <= one[2] and not self.in_hole(one, address) and reserved == client

    def standing_offers(self):
        return sorted(one for one in self.offered if self.now < one[2])

    def free(self, one, address, client):
        record = self.kept.record(address)
        if not over(record, self.now) if record else len(self.kept.records) >= self.most:
            return False
        others = [each for each in self.standing_offers() if each[0] == address and each[1] != client]
        return self.may(one, address, client) and not others

    def full(self, one, client):
        cls = self.kept.class_now(client)
        there = [r for r in self.kept.records if one[1] <= r[0] <= one[2] and live(r, self.now)]
        there = [r for r in there if self.kept.class_now(r[1]) == cls]
        return any(len(there) >= n for ident, of, n in self.kept.limits if (ident, of) == (one[0], cls))

    def length(self, one, wanted):
        return one[4] if wanted == 0 else sorted([one[3], wanted, one[5]])[1]

    def choose(self, one, client, wanted):
        free = [address for address in range(one[1], one[2] + 1) if self.free(one, address, client)]
        refuse_if(not free, -13)
        reserved = [address for address in free if (address, client) in self.kept.reserved]
        if reserved:
            return reserved[0]
        if wanted in free:
            return wanted
        own = [self.kept.record(address) for address in free if self.kept.record(address)]
        own = [r for r in own if r[1] == client]
        if own:
            return sorted(own, key=lambda r: r[2])[-1][0]
        new = [address for address in free if not self.kept.record(address)]
        return new[0] if new else sorted(free, key=lambda address: self.kept.record(address)[3])[0]

    def discover(self, ident, client, wanted, length):
        one = self.subnet_or_refuse(ident)
        record = self.kept.standing(one, client, self.now)
        if record:
            refuse_if(not self.may(one, record[0], client), -12)
            return [record[0], self.length(one, length), 0]
        refuse_if(self.full(one, client), -11)
        left = [each for each in self.standing_offers() if each[1] != client or each[0] < one[1] or each[0] > one[2]]
        refuse_if(len(left) >= 256, -5)
        address = self.choose(one, client, wanted)
        self.offered = left + [(address, client, min(TOP, self.now + self.hold))]
        assert len({each[0] for each in self.offered}) == len(self.offered)
        return [address, self.length(one, length), min(TOP, self.now + self.hold)]

    def request(self, client, address, length):
        one = self.kept.subnet_of(address)
        refuse_if(not one, -4)
        record = self.kept.standing(one, client, self.now)
        if record:
            refuse_if(record[0] != address, -12)
            return self.renew(client, address, record[2], length)
        refuse_if((address, client) not in [each[:2] for each in self.standing_offers()], -8)
        refuse_if(not self.free(one, address, client), -10)
        refuse_if(self.full(one, client), -11)
        refuse_if(self.kept.count == TOP, -5)
        number, end = self.kept.count + 1, min(TOP, self.now + self.length(one, length))
        self.write(9, address, client, number, end)
        self.offered = without(self.offered, address)
        return [number, end]

    def live_or_refuse(self, client, address, number):
        record = self.kept.record(address)
        refuse_if(not record or not live(record, self.now) or record[1:3] != (client, number), -8)
        return record

    def renew(self, client, address, number, length):
        record, one = self.live_or_refuse(client, address, number), self.kept.subnet_of(address)
        refuse_if(not self.may(one, address, client), -10)
        end = max(record[3], min(TOP, self.now + self.length(one, length)))
        self.write(9, address, client, number, end)
        return [number, end]

    def release(self, client, address, number):
        self.live_or_refuse(client, address, number)
        return self.write(10, address, number)

    def decline(self, client, address, number):
        self.live_or_refuse(client, address, number)
        end = min(TOP, self.now + self.kept.subnet_of(address)[6])
        self.write(11, address, number, end)
        return [end]

    def options(self, ident, client, codes):
        self.subnet_or_refuse(ident)
        values, given = {one[:3]: one[3] for one in self.kept.options}, []
        for code in codes:
            keys = [(3, client, code), (1, ident, code), (2, self.kept.class_now(client), code), (0, 0, code)]
            found = [values[key] for key in keys if key in values]
            given += [1, len(found[0]), *found[0]] if found else [0]
        return given

    def lease(self, address):
        refuse_if(not self.kept.record(address), -8)
        return list(self.kept.record(address))

    def told(self, rows):
        return [len(rows)] + [number for one in rows for number in one]

    def leases(self, client):
        return self.told(sorted(r for r in self.kept.records if r[1] == client))

    def ending(self, upto, most):
        found = [r for r in self.kept.records if live(r, self.now) and r[3] <= upto]
        return self.told(sorted(found, key=lambda r: (r[3], r[0]))[:most])

    def usage(self, ident):
        one, given = self.subnet_or_refuse(ident), [0] * 5
        offered, reserved = [each[0] for each in self.standing_offers()], dict(self.kept.reserved)
        for address in range(one[1], one[2] + 1):
            record = self.kept.record(address)
            given[0] += bool(record and live(record, self.now))
            given[1] += bool(record and record[4] == 2 and record[3] > self.now)
            given[2] += bool(record and over(record, self.now))
            given[3] += address in offered
            left = not self.in_hole(one, address) and address not in reserved and address not in offered
            given[4] += left and (not record or over(record, self.now))
        return given

    def journal(self):
        return [len(self.stored), *self.stored]

    def load(self, stored):
        self.kept, count, size = read_back(stored, self.most)
        self.stored, self.offered, self.now = list(stored[:size]), [], max(self.now, self.kept.latest)
        return [count, size]

    def crash(self, k):
        now, given = self.now, self.load(self.stored[:len(self.stored) - k])
        self.now = now
        return given

    def compact(self):
        stored = self.kept.rows()
        refuse_if(len(stored) > self.room, -9)
        self.stored = stored
        return [len(stored)]

    def offers(self):
        return self.told(self.standing_offers())
