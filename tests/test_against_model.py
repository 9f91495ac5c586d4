"""Many lists of calls, made by a seeded draw, answered by the program and by a plain model of the document.

The model looks at every address of its small subnets in turn and keeps all in lists; it shares no code with
the program.
"""

import random
import unittest

from helper import HIGHEST, LOWEST, MOST_ADDRESS, MOST_CLIENT, TOP, split
from lentstretch.reading import read_calls
from lentstretch.server import answer_call, answers
from lentstretch.state import Server

BYTE = (0, 255)
ADDRESS = (0, MOST_ADDRESS)
CLIENT = (0, MOST_CLIENT)
TIME = (0, TOP)
RANGES = [
    [(64, 1000000), (1, 4096), (1, 2147483648)], [TIME], [BYTE, ADDRESS, ADDRESS, TIME, TIME, TIME, TIME],
    [BYTE, ADDRESS, ADDRESS], [ADDRESS, CLIENT], [ADDRESS], [CLIENT, BYTE], [BYTE, BYTE, (0, 2 ** 32 - 1)],
    [(0, 3), CLIENT, BYTE], [(0, 3), CLIENT, BYTE], [BYTE, CLIENT, (-1, MOST_ADDRESS), TIME],
    [CLIENT, ADDRESS, TIME], [CLIENT, ADDRESS, TIME, TIME],
]
# How many bytes a row has, by the place of the call that writes it; an option's value comes on top.
ROW_SIZES = {2: 53, 3: 21, 4: 22, 5: 16, 6: 19, 7: 18, 8: 20, 9: 20, 11: 38, 12: 38}


class Refused(Exception):
    pass


def refuse_if(condition, number):
    if condition:
        raise Refused(number)


class Model:
    def __init__(self):
        self.begun = False

    def call(self, place, numbers, value):
        try:
            refuse_if(place != 0 and not self.begun, -1)
            for number, (least, most) in zip(numbers, RANGES[place]):
                refuse_if(not least <= number <= most, -2)
            refuse_if(len(value) > 64 or any(byte < 0 or byte > 255 for byte in value), -2)
            do = [
                self.begin, self.tick, self.subnet, self.hole, self.reserve, self.unreserve, self.class_of, self.limit,
                self.option, self.unoption, self.discover, self.request, self.renew,
            ][place]
            return do(*numbers, value) if place == 8 else do(*numbers)
        except Refused as refusal:
            return [refusal.args[0]]

    def take_room(self, size):
        refuse_if(self.used + size > self.room, -9)
        self.used += size

    def begin(self, room, records, hold):
        self.begun, self.room, self.most, self.hold, self.now, self.used = True, room, records, hold, 0, 0
        self.subnets, self.holes, self.reserved, self.classes, self.limits = [], [], [], [], []
        self.options, self.records, self.offers, self.count = [], [], [], 0
        return [0]

    def tick(self, n):
        refuse_if(self.now + n > TOP, -3)
        self.now += n
        return [self.now]

    def subnet_by_id(self, ident):
        found = [one for one in self.subnets if one[0] == ident]
        refuse_if(not found, -4)
        return found[0]

    def subnet_of(self, address):
        found = [one for one in self.subnets if one[1] <= address <= one[2]]
        refuse_if(not found, -4)
        return found[0]

    def subnet(self, ident, first, end, least, usual, most, rest):
        refuse_if(ident in [one[0] for one in self.subnets], -7)
        refuse_if(len(self.subnets) == 64, -5)
        refuse_if(not (first <= end and 1 <= least <= usual <= most and 1 <= rest), -6)
        for one in self.subnets:
            refuse_if(max(one[1], first) <= min(one[2], end), -10)
        self.take_room(53)
        self.subnets.append((ident, first, end, least, usual, most, rest))
        return [0]

    def hole(self, ident, first, end):
        one = self.subnet_by_id(ident)
        refuse_if(len([each for each in self.holes if each[0] == ident]) == 64, -5)
        refuse_if(not one[1] <= first <= end <= one[2], -6)
        self.take_room(21)
        self.holes.append((ident, first, end))
        return [0]

    def reserve(self, address, client):
        self.subnet_of(address)
        refuse_if(address in [one[0] for one in self.reserved], -7)
        self.take_room(22)
        self.reserved.append((address, client))
        return [0]

    def unreserve(self, address):
        refuse_if(address not in [one[0] for one in self.reserved], -8)
        self.take_room(16)
        self.reserved = [one for one in self.reserved if one[0] != address]
        return [0]

    def class_now(self, client):
        return sum(cls for one, cls in self.classes if one == client)

    def class_of(self, client, cls):
        refuse_if(self.class_now(client) == cls, -7)
        self.take_room(19)
        self.classes = [one for one in self.classes if one[0] != client] + [(client, cls)]
        return [0]

    def limit(self, ident, cls, n):
        self.subnet_by_id(ident)
        self.take_room(18)
        self.limits = [one for one in self.limits if one[:2] != (ident, cls)] + [(ident, cls, n)]
        return [0]

    def option(self, scope, who, code, value):
        refuse_if((scope == 0 and who > 0) or (scope in (1, 2) and who >= 256), -6)
        self.take_room(20 + len(value))
        self.options = [one for one in self.options if one != (scope, who, code)] + [(scope, who, code)]
        return [0]

    def unoption(self, scope, who, code):
        refuse_if((scope, who, code) not in self.options, -8)
        self.take_room(20)
        self.options = [one for one in self.options if one != (scope, who, code)]
        return [0]

    def record(self, address):
        """Address, client, number, end; every record here is of kind 0."""
        found = [one for one in self.records if one[0] == address]
        return found[0] if found else None

    def standing(self, one, client):
        found = [r for r in self.records if one[1] <= r[0] <= one[2] and r[1] == client and self.now < r[3]]
        assert len(found) < 2
        return found[0] if found else None

    def may(self, one, address, client):
        if not one[1] <= address <= one[2]:
            return False
        for ident, first, end in self.holes:
            if ident == one[0] and first <= address <= end:
                return False
        return all(who == client for spot, who in self.reserved if spot == address)

    def free(self, one, address, client):
        record = self.record(address)
        if record is None and len(self.records) >= self.most:
            return False
        if record is not None and self.now < record[3]:
            return False
        offers = [each for each in self.offers if each[0] == address and each[1] != client and self.now < each[2]]
        return self.may(one, address, client) and not offers

    def full(self, one, client):
        cls = self.class_now(client)
        live = [r for r in self.records if one[1] <= r[0] <= one[2] and self.now < r[3] and self.class_now(r[1]) == cls]
        return any(len(live) >= n for ident, of, n in self.limits if (ident, of) == (one[0], cls))

    def length(self, one, wanted):
        return one[4] if wanted == 0 else sorted([one[3], wanted, one[5]])[1]

    def choose(self, one, client, wanted):
        free = [address for address in range(one[1], one[2] + 1) if self.free(one, address, client)]
        refuse_if(not free, -13)
        reserved = [address for address in free if (address, client) in self.reserved]
        if reserved:
            return reserved[0]
        if wanted in free:
            return wanted
        own = [address for address in free if self.record(address) and self.record(address)[1] == client]
        if own:
            return sorted(own, key=lambda address: self.record(address)[2])[-1]
        new = [address for address in free if not self.record(address)]
        return new[0] if new else sorted(free, key=lambda address: self.record(address)[3])[0]

    def discover(self, ident, client, wanted, length):
        one = self.subnet_by_id(ident)
        record = self.standing(one, client)
        if record:
            refuse_if(not self.may(one, record[0], client), -12)
            return [record[0], self.length(one, length), 0]
        refuse_if(self.full(one, client), -11)
        left = [each for each in self.offers if self.now < each[2]]
        left = [each for each in left if each[1] != client or each[0] < one[1] or each[0] > one[2]]
        refuse_if(len(left) >= 256, -5)
        address = self.choose(one, client, wanted)
        self.offers = left + [(address, client, min(TOP, self.now + self.hold))]
        assert len({each[0] for each in self.offers}) == len(self.offers)
        return [address, self.length(one, length), min(TOP, self.now + self.hold)]

    def put(self, address, client, number, end):
        self.take_room(38)
        self.records = [one for one in self.records if one[0] != address] + [(address, client, number, end)]
        return [number, end]

    def request(self, client, address, length):
        one = self.subnet_of(address)
        record = self.standing(one, client)
        if record:
            refuse_if(record[0] != address, -12)
            return self.renew(client, address, record[2], length)
        offers = [each for each in self.offers if each[:2] == (address, client) and self.now < each[2]]
        refuse_if(not offers, -8)
        refuse_if(not self.free(one, address, client), -10)
        refuse_if(self.full(one, client), -11)
        given = self.put(address, client, self.count + 1, min(TOP, self.now + self.length(one, length)))
        self.count += 1
        self.offers = [each for each in self.offers if each[0] != address]
        return given

    def renew(self, client, address, number, length):
        record = self.record(address)
        refuse_if(not record or self.now >= record[3] or record[1:3] != (client, number), -8)
        one = self.subnet_of(address)
        refuse_if(not self.may(one, address, client), -10)
        end = max(record[3], min(TOP, self.now + self.length(one, length)))
        return self.put(address, client, number, end)


class Draw:
    """Draws the calls of one list. Most numbers are few and small, so that calls meet one another."""

    def __init__(self, seed):
        self.random = random.Random(seed)
        self.late = seed % 5 == 0
        self.narrow = seed % 3 == 0

    def address(self):
        return self.random.randint(0, 24)

    def client(self):
        return self.random.randint(1, 6)

    def length(self):
        return self.random.choice([0, 0, 1, 3, 8, 20, 1000, TOP])

    def begin(self):
        room = self.random.randint(64, 900) if self.narrow else 1000000
        return [room, self.random.choice([1, 3, 5, 4096]), self.random.randint(1, 15)]

    def tick(self):
        if self.late and self.random.random() < 0.1:
            return [TOP - self.random.randint(0, 60)]
        return [self.random.randint(0, 6)]

    def subnet(self):
        first = self.random.randint(0, 3) * 6
        least = self.random.randint(1, 4) - (self.random.random() < 0.05)
        usual = least + self.random.randint(-1, 12)
        most = usual + self.random.randint(-1, 12)
        if self.random.random() < 0.1:
            most = TOP
        end = first + self.random.choice([5, 5, 5, 3, 7, -1])
        return [self.random.randint(0, 4), first, max(0, end), least, max(0, usual), max(0, most), self.random.randint(0, 9)]

    def numbers(self, place):
        pick, client, address = self.random.randint, self.client(), self.address()
        if place < 3:
            return [self.begin, self.tick, self.subnet][place]()
        if place == 3:
            return [pick(0, 4), address, address + pick(-1, 2) if address else 0]
        if place in (4, 5, 6, 7):
            return [[address, client], [address], [client, pick(0, 2)], [pick(0, 4), pick(0, 2), pick(0, 3)]][place - 4]
        if place in (8, 9):
            return [pick(0, 3), self.random.choice([0, 0, 1, 255, 256]), pick(0, 1)]
        if place == 10:
            return [pick(0, 4), client, self.random.choice([-1, address]), self.length()]
        return [client, address, self.length()] if place == 11 else [client, address, pick(0, 9), self.length()]

    def call(self, known):
        """A call; requests and renewals mostly take up what has been offered or lent before."""
        weights = [0.15, 12, 8, 5, 5, 3, 4, 5, 3, 2, 26, 18, 12]
        place = self.random.choices(range(13), weights)[0]
        numbers = self.numbers(place)
        if place in (11, 12) and known[place] and self.random.random() < 0.8:
            lent = self.random.choice(known[place][-6:])
            numbers = lent + [self.length()]
        if self.random.random() < 0.02:
            spot = self.random.randrange(len(numbers))
            least, most = RANGES[place][spot]
            numbers[spot] = self.random.choice([least - 1, least, most, most + 1, LOWEST, HIGHEST])
            if place == 2 and numbers[2] - numbers[1] > 1000:
                numbers[2] = 10
        value = [self.random.randint(0, 255)] * self.random.choice([0, 1, 64, 65]) if place == 8 else []
        return place, numbers, value


def drawn(seed, size=400):
    """The calls of a list, with the model's answers."""
    draw, model, known, found = Draw(seed), Model(), {11: [], 12: []}, []
    while len(found) < size:
        place, numbers, value = draw.call(known)
        if not found and seed % 10:
            place, numbers, value = 0, draw.begin(), []
        given = model.call(place, numbers, value)
        if place == 10 and given[0] >= 0:
            known[11].append([numbers[1], given[0]])
        if place == 11 and given[0] > 0:
            known[12].append([numbers[0], numbers[1], given[0]])
        found.append((place, numbers, value, given))
    return found


def laid(calls):
    flat = []
    for place, numbers, value, _ in calls:
        flat += [place, *numbers] + ([len(value), *value] if place == 8 else [])
    return flat


def plain(value):
    """An object and all that it holds, as plain values that are the object's no more."""
    if isinstance(value, dict):
        return [(key, plain(one)) for key, one in value.items()]
    if isinstance(value, list):
        return [plain(one) for one in value]
    return plain(vars(value)) if hasattr(value, "__dict__") else value


class AgainstTheModel(unittest.TestCase):
    SEEDS = range(1, 241)

    @classmethod
    def setUpClass(cls):
        cls.lists = [drawn(seed) for seed in cls.SEEDS]

    def test_the_same_answers(self):
        for seed, calls in zip(self.SEEDS, self.lists):
            given = split(answers(laid(calls)))
            self.assertEqual(len(given), len(calls))
            for spot, (call, answer) in enumerate(zip(calls, given)):
                self.assertEqual(answer, call[3], (seed, spot, call))

    def test_a_refusal_changes_nothing(self):
        """Without the calls that are refused, all others answer the same."""
        for seed, calls in zip(self.SEEDS, self.lists):
            kept = [call for call in calls if call[3][0] >= 0]
            self.assertEqual(split(answers(laid(kept))), [call[3] for call in kept], seed)

    def test_a_refusal_leaves_the_whole_state(self):
        for seed, calls in zip(self.SEEDS, self.lists[:60]):
            server = Server()
            before = plain(server)
            for call in read_calls(laid(calls)):
                answer = answer_call(server, call)
                after = plain(server)
                if answer[0] < 0:
                    self.assertEqual(after, before, (seed, call.place, call.numbers))
                before = after

    def test_the_list_handed_in_stays_and_the_answers_too(self):
        for calls in self.lists[:40]:
            flat = laid(calls)
            before = list(flat)
            first = answers(flat)
            self.assertEqual(flat, before)
            self.assertEqual(answers(flat), first)
            self.assertEqual(flat, before)
            self.assertTrue(all(type(number) is int for number in first))

    def test_no_address_is_lent_to_two(self):
        """Promise 2, from the answers alone; and no lease's number comes twice."""
        for seed, calls in zip(self.SEEDS, self.lists):
            now, leases = 0, {}
            for (place, numbers, _, _), given in zip(calls, split(answers(laid(calls)))):
                if given[0] < 0:
                    continue
                if place == 0:
                    now, leases = 0, {}
                elif place == 1:
                    now = given[0]
                elif place in (11, 12):
                    client, address, (number, end) = numbers[0], numbers[1], given
                    leases.setdefault(number, (client, address, end))
                    self.assertEqual(leases[number][:2], (client, address), seed)
                    self.assertGreater(leases[number][2], now)
                    leases[number] = (client, address, end)
                    live = [one for one in leases.values() if one[1] == address and now < one[2]]
                    self.assertEqual(len(live), 1, (seed, live))

    def test_the_draw_meets_every_refusal(self):
        """All that so few calls can reach at all, so that the tests above say something of each."""
        met = {(place, given[0]) for calls in self.lists for place, _, _, given in calls if given[0] < 0}
        wanted = {(place, refusal) for place in range(1, 13) for refusal in (-1, -2)} | {(0, -2)}
        wanted |= {(place, -9) for place in ROW_SIZES}
        wanted |= {(1, -3), (2, -7), (2, -6), (2, -10), (3, -4), (3, -6), (4, -4), (4, -7), (5, -8), (6, -7), (7, -4)}
        wanted |= {(8, -6), (9, -8), (10, -4), (10, -12), (10, -11), (10, -13)}
        wanted |= {(11, -4), (11, -12), (11, -8), (11, -10), (11, -11), (12, -8), (12, -10)}
        self.assertEqual(wanted - met, set())


if __name__ == "__main__":
    unittest.main()
