"""Many lists of calls, made by a seeded draw, answered by the program and by a plain model of the document."""

import random
import unittest

from helper import HIGHEST, LOWEST, TOP, begin, load, row, split
from lentstretch.reading import read_calls
from lentstretch.server import answer_call, answers
from lentstretch.state import Server
from model import RANGES, WITH_LIST, Kept, Model, live

MOST_NUMBERS = 16000
# How often each call comes, by its place.
WEIGHTS = (0.25, 12, 12, 4, 4, 3, 4, 3, 3, 2, 26, 22, 8, 7, 6, 2, 3, 2, 3, 4, 0.5, 1.2, 1.2, 2, 2)


class Draw:
    """Draws the calls of one list. Most numbers are few and small, so that calls meet one another."""

    def __init__(self, seed):
        self.random = random.Random(seed)
        self.late = seed % 5 == 0
        self.narrow = seed % 3 == 0
        self.model = Model()
        self.old = [[]]

    def chance(self, share):
        return self.random.random() < share

    def one_subnet(self):
        """Mostly one that is there: id, first, last."""
        subnets = self.model.kept.subnets if self.model.begun else []
        if not subnets or self.chance(0.15):
            return self.random.randint(0, 4), 0, 24
        return self.random.choice(subnets)[:3]

    def ident(self):
        return self.one_subnet()[0]

    def address(self):
        return self.random.randint(*self.one_subnet()[1:])

    def client(self):
        return self.random.randint(1, 6)

    def length(self):
        return self.random.choice([0, 0, 1, 3, 8, 20, 1000, TOP])

    def begin(self):
        room = self.random.randint(64, 900) if self.narrow else 1000000
        return [room, self.random.choice([1, 3, 5, 4096]), self.random.randint(1, 15)]

    def tick(self):
        if self.late and self.chance(0.1):
            return [TOP - self.random.randint(0, 60)]
        return [self.random.randint(0, 6)]

    def subnet(self):
        first = self.random.randint(0, 3) * 6
        least = self.random.randint(1, 4) - self.chance(0.05)
        usual = max(0, least + self.random.randint(-1, 12))
        most = TOP if self.chance(0.1) else max(0, usual + self.random.randint(-1, 12))
        end = max(0, first + self.random.choice([5, 5, 5, 3, 7, -1]))
        return [self.random.randint(0, 4), first, end, least, usual, most, self.random.randint(0, 9)]

    def of_a_record(self, records):
        """Client, address and number of a record, and now and then of none."""
        if not records or self.chance(0.15):
            return [self.client(), self.address(), self.random.randint(0, 9)]
        record = self.random.choice(records)
        return [record[1], record[0], record[2]]

    def taken_up(self):
        """Client and address of an offer, and now and then of none."""
        if not self.model.begun or not self.model.offered or self.chance(0.25):
            return [self.client(), self.address()]
        offer = self.random.choice(self.model.offered)
        return [offer[1], offer[0]]

    def lent(self):
        if not self.model.begun:
            return self.of_a_record([])
        records = self.model.kept.records
        alive = [record for record in records if live(record, self.model.now)]
        return self.of_a_record(alive if self.chance(0.8) else records)

    def hole(self, kept):
        if not kept.subnets or self.chance(0.3):
            return [self.random.randint(0, 4), self.address(), self.address()]
        ident, first, end = self.random.choice(kept.subnets)[:3]
        start = self.random.randint(first, end)
        return [ident, start, max(0, start + self.random.randint(-1, 2))]

    def setting(self, place, kept):
        """The numbers of a call that sets the server up, or of the row that it writes."""
        pick, client, address = self.random.randint, self.client(), self.address()
        if place in (2, 3):
            return self.subnet() if place == 2 else self.hole(kept)
        there = {5: [one[:1] for one in kept.reserved], 9: [one[:3] for one in kept.options]}.get(place)
        if there and self.chance(0.6):
            return list(self.random.choice(there))
        if place in (4, 5, 6, 7):
            return [[address, client], [address], [client, pick(0, 2)], [self.ident(), pick(0, 2), pick(0, 3)]][place - 4]
        return [pick(0, 3), self.random.choice([0, 0, 1, 2, 255, 256]), pick(0, 1)]

    def numbers(self, place):
        pick, client, address = self.random.randint, self.client(), self.address()
        if place < 2:
            return [self.begin, self.tick][place]()
        if place < 10:
            return self.setting(place, self.model.kept if self.model.begun else Kept())
        if place in (11, 12):
            return (self.taken_up() if place == 11 else self.lent()) + [self.length()]
        if place in (13, 14):
            return self.lent()
        if place == 16 and self.chance(0.7):
            return self.lent()[1:2]
        if place == 22:
            size = len(self.model.stored) if self.model.begun else 0
            some = [0, 1, pick(0, 60), pick(0, 60), pick(0, 200), pick(0, size), self.random.choice([size, size + 1])]
            return [self.random.choice(some)]
        return {
            10: [self.ident(), client, self.random.choice([-1, address]), self.length()], 15: [self.ident(), client],
            16: [address], 17: [client], 18: [pick(0, 60), self.random.choice([0, 1, 2, 64])], 19: [self.ident()],
        }.get(place, [])

    def row(self, kept):
        """A row that's not unlikely to apply to what is kept: kind, time, numbers, value."""
        pick, kind = self.random.randint, self.random.choices(range(1, 14), (4, 2, 2, 2, 1, 1, 1, 2, 8, 3, 3, 8, 1))[0]
        t = max(0, kept.latest + self.random.choice([0, 0, 0, 1, 2, 5, -1]))
        t = TOP + pick(-1, 1) if self.chance(0.01) else t
        client, address, number = self.of_a_record(kept.records)
        end = max(0, t + pick(-3, 12))
        if kind < 9:
            value = [pick(0, 255)] * self.random.choice([0, 1, 64, 65]) if kind == 7 else []
            return kind, t, self.setting(kind + 1, kept), value
        number_anew = self.random.choice([kept.count + 1, pick(0, 30), pick(TOP - 2, TOP + 1)])
        fresh = [self.address(), self.client(), number_anew]
        if kind == 9:
            renewed = [address, client, number]
            return kind, t, (renewed if self.chance(0.3) else [fresh[0], fresh[1], kept.count + 1]) + [end], []
        if kind == 12 and self.chance(0.8):
            fresh[2] = pick(1, 40)
        count = TOP - pick(0, 2) if self.chance(0.1) else max(0, kept.count + pick(-1, 5))
        return kind, t, {
            10: [address, number], 11: [address, number, end], 12: fresh + [end, min(3, pick(0, 9) // 3)], 13: [count],
        }[kind], []

    def rows(self, kept, stored, most):
        """Rows behind those that made what is kept; few of them don't apply, for there all ends."""
        stored = list(stored)
        for _ in range(self.random.randint(1, most)):
            one = self.row(kept)
            other = kept.after(*one)
            if other is None and self.chance(0.99):
                continue
            kept = other or kept
            stored += row(one[0], one[1], *one[2], value=one[3])
        return stored

    def bytes(self):
        """What load is told: mostly a journal, as it is or was, cut, changed, or with other rows behind it."""
        if not self.model.begun:
            return [1, 2, 3]
        stored, spot = list(self.random.choice(self.old + [self.model.stored] * 3)), self.random.random()
        if spot < 0.25:
            return self.rows(Kept(), [], 120)
        if spot < 0.65:
            return self.rows(self.model.kept, self.model.stored, 25)
        if spot < 0.8 and stored:
            at = self.random.randrange(len(stored))
            stored[at] = self.random.choice([0, 255, 256, -1, (stored[at] + 1) % 256, self.random.randint(0, 255)])
        return stored[:self.random.randint(0, len(stored))] if spot > 0.9 else stored

    def listed(self, place):
        if place == 8:
            return [self.random.randint(0, 255)] * self.random.choice([0, 1, 3, 64, 65])
        if place == 15:
            size = self.random.choice([0, 1, 3, 64, 65])
            return [self.random.randint(0, 2 + self.chance(0.05) * 254) for _ in range(size)]
        return self.bytes() if place == 21 else []

    def call(self):
        place = self.random.choices(range(25), WEIGHTS)[0]
        numbers = self.numbers(place)
        if numbers and place != 22 and self.chance(0.02):
            spot = self.random.randrange(len(numbers))
            least, most = RANGES[place][spot]
            numbers[spot] = self.random.choice([least - 1, least, most, most + 1, LOWEST, HIGHEST])
            if place == 2 and numbers[1] < numbers[2]:
                # The model looks at every address of a subnet.
                numbers[1:3] = min(numbers[1], 100), min(numbers[2], 110)
        return place, numbers, self.listed(place)


def laid(calls):
    flat = []
    for place, numbers, listed, _ in calls:
        flat += [place, *numbers] + ([len(listed), *listed] if place in WITH_LIST else [])
    return flat


def drawn(seed, size=400):
    """The calls of a list, with the model's answers; no longer than the interface allows."""
    draw, found, left, seldom = Draw(seed), [], MOST_NUMBERS, {"journal": 8, "options": 60, "rows": 60}
    while len(found) < size:
        place, numbers, listed = draw.call()
        if not found and seed % 10:
            place, numbers, listed = 0, draw.begin(), []
        call, group = (place, numbers, listed, None), {20: "journal", 15: "options", 17: "rows", 24: "rows"}.get(place)
        if seldom.get(group) == 0:
            continue
        if len(laid([call])) > left:
            break
        if group:
            seldom[group] -= 1
        left -= len(laid([call]))
        found.append((*call[:3], draw.model.call(place, numbers, listed)))
        if place == 20 and found[-1][3][0] > 0:
            draw.old.append(found[-1][3][1:])
    return found


def is_refused(given):
    return given != [] and given[0] < 0


def plain(value):
    """An object and all that it holds, as plain values that are the object's no more."""
    if isinstance(value, dict):
        return [(key, plain(one)) for key, one in value.items()]
    if isinstance(value, list):
        return [plain(one) for one in value]
    return plain(vars(value)) if hasattr(value, "__dict__") else value


def in_order(kept):
    """All that is kept, whatever the order in which it came."""
    return {name: sorted(one) if isinstance(one, list) else one for name, one in plain(kept)}


class AgainstTheModel(unittest.TestCase):
    SEEDS = range(1, 241)

    @classmethod
    def setUpClass(cls):
        cls.lists = [drawn(seed) for seed in cls.SEEDS]

    def test_the_same_answers(self):
        for seed, calls in zip(self.SEEDS, self.lists):
            given = split(answers(laid(calls)))
            self.assertEqual(len(given), len(calls))
            for spot, (call, answer) in enumerate(zip(calls, given)):
                self.assertEqual(answer, call[3], (seed, spot, call))

    def test_a_refusal_changes_nothing(self):
        """Without the calls that are refused, all others answer the same."""
        for seed, calls in zip(self.SEEDS, self.lists):
            kept = [call for call in calls if not is_refused(call[3])]
            self.assertEqual(split(answers(laid(kept))), [call[3] for call in kept], seed)

    def test_a_refusal_or_a_question_leaves_the_whole_state(self):
        for seed, calls in zip(self.SEEDS, self.lists[:40]):
            server = Server()
            before = plain(server)
            for call in read_calls(laid(calls)):
                answer = answer_call(server, call)
                after = plain(server)
                if is_refused(answer) or call.place in (15, 16, 17, 18, 19, 20, 24):
                    self.assertEqual(after, before, (seed, call.place, call.numbers))
                before = after

    def test_the_journal_gives_back_what_is_kept(self):
        """Promise 1: whatever has been done, from the journal comes just what is kept."""
        for seed, calls in zip(self.SEEDS, self.lists):
            server = Server()
            for spot, call in enumerate(read_calls(laid(calls))):
                answer_call(server, call)
                if spot % 20 == 19 and server.begun:
                    other = Server()
                    answer_call(other, read_calls(begin(server.room, server.most_records, server.hold))[0])
                    self.assertEqual(answer_call(other, read_calls(load(server.journal))[0])[1], len(server.journal))
                    self.assertEqual(in_order(other.kept), in_order(server.kept), (seed, spot))

    def test_the_list_handed_in_stays_and_the_answers_too(self):
        for calls in self.lists[:40]:
            flat = laid(calls)
            before = list(flat)
            first = answers(flat)
            self.assertEqual(flat, before)
            self.assertEqual(answers(flat), first)
            self.assertEqual(flat, before)
            self.assertTrue(all(type(number) is int for number in first))

    def test_no_address_is_lent_to_two(self):
        """Promises 2 and 3, from the answers alone; nor does a number come twice, as long as nothing is read back."""
        for seed, calls in zip(self.SEEDS, self.lists):
            now, leases, gone = 0, {}, []
            for (place, numbers, _, _), given in zip(calls, split(answers(laid(calls)))):
                if given == [] or given[0] < 0:
                    continue
                if place in (0, 21, 22):
                    now, leases, gone = 0 if place == 0 else now, {}, []
                elif place == 1:
                    now = given[0]
                elif place in (11, 12):
                    client, address, (number, end) = numbers[0], numbers[1], given
                    leases.setdefault(number, (client, address, end))
                    self.assertNotIn(number, gone, seed)
                    self.assertEqual(leases[number][:2], (client, address), seed)
                    leases[number] = (client, address, end)
                    alive = [one for one in leases.values() if one[1] == address and now < one[2]]
                    self.assertEqual(len(alive), 1, (seed, alive))
                elif place in (13, 14):
                    self.assertNotIn(numbers[2], gone, seed)
                    gone.append(numbers[2])
                    leases.pop(numbers[2], None)

    def test_the_draw_keeps_to_the_interface(self):
        for calls in self.lists:
            self.assertLessEqual(len(laid(calls)), MOST_NUMBERS)
            self.assertLessEqual(len(calls), 400)
            places = [call[0] for call in calls]
            self.assertLessEqual(places.count(20), 8)
            self.assertLessEqual(places.count(15), 60)
            self.assertLessEqual(places.count(17) + places.count(24), 60)
            self.assertLess(len(answers(laid(calls))), 1000000)

    def test_the_draw_meets_every_refusal(self):
        """All that so few calls can reach at all, so that the tests above say something of each."""
        met = {(call[0], call[3][0]) for calls in self.lists for call in calls if is_refused(call[3])}
        wanted = {(place, -1) for place in range(1, 25)} | {(place, -2) for place in range(25) if place not in (20, 23, 24)}
        wanted |= {(place, -9) for place in (2, 3, 4, 5, 6, 7, 8, 9, 11, 12, 13, 14, 23)}
        wanted |= {(1, -3), (2, -7), (2, -6), (2, -10), (3, -4), (3, -6), (4, -4), (4, -7), (5, -8), (6, -7), (7, -4)}
        wanted |= {(8, -6), (9, -8), (10, -4), (10, -12), (10, -11), (10, -13), (13, -8), (14, -8)}
        wanted |= {(11, -4), (11, -12), (11, -8), (11, -10), (11, -11), (11, -5), (12, -8), (12, -10)}
        wanted |= {(15, -4), (16, -8), (19, -4)}
        self.assertEqual(wanted - met, set())

    def test_the_draw_reads_back_rows_of_every_kind(self):
        kinds, counts = {}, []
        for calls in self.lists:
            for place, _, listed, given in calls:
                if place == 21 and given[0] > 0:
                    counts.append(given[0])
                    at = 0
                    while at < given[1]:
                        kinds[listed[at]] = kinds.get(listed[at], 0) + 1
                        at += listed[at + 1] + 4
        self.assertEqual(sorted(kinds), list(range(1, 14)))
        self.assertGreater(min(kinds.values()), 50, kinds)
        self.assertGreater(sum(counts) / len(counts), 6)


if __name__ == "__main__":
    unittest.main()
