"""Reading back from bytes by load: which rows can be read, and which of each kind apply."""

import unittest

from helper import (
    MOST_ADDRESS, MOST_CLIENT, TOP, begin, class_of, crash, discover, ending, joined, last, lease, lend, limit, load,
    option, options, plain_sum, request, reserve, row, sealed, subnet, tick, usage,
)

SUBNET = row(1, 0, 1, 10, 19, 5, 10, 100, 7)
OTHER = row(1, 0, 2, 30, 39, 5, 10, 100, 7)
# Address 15 is lent to client 5 from 0 to 10, with the number 1.
LEASE = row(9, 0, 15, 5, 1, 10)
# A row of each kind behind those that it needs.
OF_EACH_KIND = {
    1: [SUBNET],
    2: [SUBNET, row(2, 0, 1, 12, 13)],
    3: [SUBNET, row(3, 0, 12, 5)],
    4: [SUBNET, row(3, 0, 12, 5), row(4, 0, 12)],
    5: [row(5, 0, 5, 3)],
    6: [SUBNET, row(6, 0, 1, 3, 7)],
    7: [row(7, 0, 3, 5, 9, value=[1, 2, 3])],
    8: [row(7, 0, 3, 5, 9, value=[1, 2, 3]), row(8, 0, 3, 5, 9)],
    9: [SUBNET, LEASE],
    10: [SUBNET, LEASE, row(10, 3, 15, 1)],
    11: [SUBNET, LEASE, row(11, 3, 15, 1, 20)],
    12: [SUBNET, row(12, 0, 15, 5, 8, 10, 0)],
    13: [row(13, 0, 8)],
}


def body_of(one):
    return one[2:-2]


class ReadingBack(unittest.TestCase):
    """What the other cases below have in common."""

    def reads(self, rows, stored, before=(begin(),)):
        """So many of the rows are applied, and no more."""
        size = len(joined(*stored[:rows]))
        self.assertEqual(last([*before, load(joined(*stored))]), [rows, size])

    def all_apply(self, *rows, before=(begin(),)):
        self.reads(len(rows), rows, before)

    def stops(self, *rows, before=(begin(),)):
        """All of the rows apply but the last."""
        self.reads(len(rows) - 1, rows, before)


class Unreadable(ReadingBack):
    def test_every_kind_can_be_read(self):
        for kind, rows in OF_EACH_KIND.items():
            with self.subTest(kind=kind):
                self.all_apply(*rows)
                self.assertEqual(rows[-1][0], kind)

    def test_fewer_than_two_bytes(self):
        self.assertEqual(last([begin(), load([])]), [0, 0])
        for kind in (0, 1, 5, 13, 255):
            self.assertEqual(last([begin(), load([kind])]), [0, 0])
            self.assertEqual(last([begin(), load(SUBNET + [kind])]), [1, 53])

    def test_kinds_that_there_are_not(self):
        for kind in (0, 14, 15, 128, 255):
            for body in ([], [0] * 8, body_of(OF_EACH_KIND[13][0]), body_of(SUBNET)):
                with self.subTest(kind=kind, size=len(body)):
                    self.stops(SUBNET, sealed(kind, body))

    def test_a_row_cut_at_each_byte(self):
        for kind, rows in OF_EACH_KIND.items():
            for cut in range(len(rows[-1])):
                with self.subTest(kind=kind, cut=cut):
                    self.stops(*rows[:-1], rows[-1][:cut])

    def test_a_row_with_each_byte_changed(self):
        for kind, rows in OF_EACH_KIND.items():
            for spot in range(len(rows[-1])):
                for change in (1, 128, 255):
                    changed = list(rows[-1])
                    changed[spot] = (changed[spot] + change) % 256
                    with self.subTest(kind=kind, spot=spot, change=change):
                        self.stops(*rows[:-1], changed)

    def test_the_second_byte_tells_too_many_or_too_few(self):
        for kind, rows in OF_EACH_KIND.items():
            for size in (0, 1, 7, 8, len(rows[-1]) - 5, len(rows[-1]) - 3, 254, 255):
                changed = list(rows[-1])
                changed[1] = size
                with self.subTest(kind=kind, size=size):
                    self.stops(*rows[:-1], changed + [0] * 300)
                changed[-2:] = plain_sum(changed[:-2]).to_bytes(2, "big")
                with self.subTest(kind=kind, size=size, sum="as the changed bytes have it"):
                    self.stops(*rows[:-1], changed + [0] * 300)

    def test_numbers_that_are_not_whole(self):
        for kind, rows in OF_EACH_KIND.items():
            numbers = body_of(rows[-1]) if kind != 7 else body_of(rows[-1])[:-3]
            for size in range(len(numbers)):
                with self.subTest(kind=kind, size=size):
                    self.stops(*rows[:-1], sealed(kind, numbers[:size]))
            self.all_apply(*rows[:-1], sealed(kind, numbers))

    def test_something_left_over(self):
        for kind, rows in OF_EACH_KIND.items():
            for more in ([0], [0] * 8, [0] * (255 - len(body_of(rows[-1])))):
                with self.subTest(kind=kind, more=len(more)):
                    changed = sealed(kind, body_of(rows[-1]) + more)
                    self.reads(len(rows) if kind == 7 and len(more) < 60 else len(rows) - 1, [*rows[:-1], changed])

    def test_the_value_of_an_option(self):
        for size, rows in ((0, 1), (1, 1), (63, 1), (64, 1), (65, 0), (70, 0), (239, 0)):
            with self.subTest(size=size):
                self.reads(rows, [row(7, 0, 3, 5, 9, value=[7] * size)])

    def test_a_wrong_sum(self):
        right = OF_EACH_KIND[5][0]
        self.all_apply(right)
        for sum_bytes in ([0, 0], [255, 255], [right[-1], right[-2]], [right[-2], (right[-1] + 1) % 256]):
            self.stops(right[:-2] + sum_bytes)

    def test_a_sum_is_less_than_65521(self):
        """Two bytes can hold a number that leaves the same over, where the sum is small: it isn't the sum."""
        for cls, total in ((6, 0), (7, 1), (20, 14)):
            one = row(5, 0, 4598, cls)
            self.assertEqual(one[-2:], [0, total])
            self.all_apply(one)
            self.stops(one[:-2] + [255, 241 + total])

    def test_a_sum_of_0_is_not_there_where_the_row_is_cut(self):
        """Bytes that aren't there are no zeros."""
        one = row(5, 0, 4598, 6)
        self.assertEqual(one[-2:], [0, 0])
        self.all_apply(SUBNET, one)
        for cut in range(len(one)):
            self.stops(SUBNET, one[:cut])

    def test_what_lies_behind_a_row_that_cannot_be_read_is_not_read(self):
        self.reads(1, [SUBNET, [0], row(5, 0, 5, 3)])
        self.reads(1, [SUBNET, row(5, 0, 5, 3)[:-1], row(5, 0, 6, 3)])
        self.reads(1, [SUBNET, row(5, 0, 5, 0), row(5, 0, 6, 3)])


class Times(ReadingBack):
    def test_times_may_stay_and_go_on_but_not_back(self):
        self.all_apply(row(5, 4, 5, 1), row(5, 4, 5, 2), row(5, 5, 5, 3))
        self.stops(row(5, 4, 5, 1), row(5, 3, 5, 2))
        self.stops(row(5, 4, 5, 1), row(5, 0, 5, 2))
        self.stops(row(5, 4, 5, 1), row(5, 9, 5, 2), row(5, 8, 5, 3))

    def test_times_up_to_the_end_of_time(self):
        self.all_apply(row(5, TOP, 5, 1), row(5, TOP, 5, 2))
        self.stops(row(5, TOP + 1, 5, 1))
        self.stops(row(5, 1, 5, 1), row(5, TOP + 1, 5, 2))
        self.stops(row(5, 2 ** 64 - 1, 5, 1))
        self.stops(row(5, TOP, 5, 1), row(5, TOP - 1, 5, 2))

    def test_of_every_kind(self):
        for kind, rows in OF_EACH_KIND.items():
            numbers = body_of(rows[-1])[8:]
            with self.subTest(kind=kind):
                late = row(5, 5, 99, 1)
                self.stops(*rows[:-1], sealed(kind, [64, 0, 0, 0, 0, 0, 0, 1] + numbers))
                self.stops(*rows[:-1], late, sealed(kind, [0] * 7 + [4] + numbers))
                self.all_apply(*rows[:-1], late, sealed(kind, [0] * 7 + [5] + numbers))

    def test_live_at_the_time_of_the_row_and_over_now(self):
        late = (begin(), tick(1000))
        self.all_apply(SUBNET, LEASE, row(9, 9, 15, 5, 1, 20), before=late)
        self.all_apply(SUBNET, LEASE, row(10, 9, 15, 1), before=late)
        self.all_apply(SUBNET, LEASE, row(11, 9, 15, 1, 20), before=late)
        self.stops(SUBNET, LEASE, row(9, 9, 15, 6, 2, 20), before=late)
        self.stops(SUBNET, LEASE, row(9, 9, 16, 5, 2, 20), before=late)
        self.stops(SUBNET, LEASE, row(12, 9, 16, 5, 2, 20, 0), before=late)
        self.stops(SUBNET, LEASE, row(11, 3, 15, 1, 20), row(9, 19, 15, 6, 2, 30), before=late)
        self.stops(SUBNET, row(12, 0, 15, 5, 1, 20, 1), before=late)

    def test_over_at_the_time_of_the_row_and_live_now(self):
        self.stops(SUBNET, LEASE, row(9, 10, 15, 5, 1, 20))
        self.stops(SUBNET, LEASE, row(10, 10, 15, 1))
        self.stops(SUBNET, LEASE, row(11, 10, 15, 1, 20))
        self.all_apply(SUBNET, LEASE, row(9, 10, 15, 6, 2, 20))
        self.all_apply(SUBNET, LEASE, row(9, 10, 16, 5, 2, 20))
        self.all_apply(SUBNET, LEASE, row(12, 10, 16, 5, 2, 20, 0))
        self.all_apply(SUBNET, LEASE, row(11, 3, 15, 1, 20), row(9, 20, 15, 6, 2, 30))
        self.all_apply(SUBNET, row(12, 20, 15, 5, 1, 20, 1))

    def test_ends_are_later_than_the_time_of_the_row_not_than_now(self):
        late = (begin(), tick(1000))
        self.all_apply(SUBNET, row(9, 3, 15, 5, 1, 4), row(11, 3, 15, 1, 4), before=late)
        self.stops(SUBNET, row(9, 3, 15, 5, 1, 3))
        self.stops(SUBNET, LEASE, row(11, 3, 15, 1, 3))


class SettingRows(ReadingBack):
    """The kinds 1 to 8."""

    def test_1_subnet(self):
        self.all_apply(SUBNET, row(1, 0, 0, 0, 9, 1, 1, 1, 1), row(1, 0, 255, 20, MOST_ADDRESS, TOP, TOP, TOP, TOP))
        self.all_apply(row(1, 0, 7, 5, 5, 1, 2, 3, 4))

    def test_1_id_there(self):
        self.stops(SUBNET, row(1, 0, 1, 30, 39, 5, 10, 100, 7))

    def test_1_64_subnets(self):
        rows = [row(1, 0, ident, ident, ident, 1, 1, 1, 1) for ident in range(64)]
        self.all_apply(*rows)
        self.stops(*rows, row(1, 0, 64, 64, 64, 1, 1, 1, 1))

    def test_1_unfit_numbers(self):
        self.all_apply(SUBNET, row(1, 0, 2, 30, 39, 5, 5, 5, 1))
        for numbers in (
            (31, 30, 5, 10, 100, 7), (30, 39, 0, 10, 100, 7), (30, 39, 11, 10, 100, 7), (30, 39, 5, 101, 100, 7),
            (30, 39, 5, 10, TOP + 1, 7), (30, 39, 5, 10, 2 ** 64 - 1, 7), (30, 39, 5, TOP + 1, TOP + 1, 7),
            (30, 39, TOP + 1, TOP + 1, TOP + 1, 7), (30, 39, 5, 10, 100, 0), (30, 39, 5, 10, 100, TOP + 1),
            (30, 39, 5, 10, 100, 2 ** 64 - 1), (30, 39, 0, 0, 0, 7),
        ):
            with self.subTest(numbers=numbers):
                self.stops(SUBNET, row(1, 0, 2, *numbers))

    def test_1_addresses_in_common(self):
        for first, end in ((0, 10), (19, 25), (12, 13), (10, 19), (0, 100)):
            self.stops(SUBNET, row(1, 0, 2, first, end, 5, 10, 100, 7))

    def test_1_it_is_there(self):
        calls = [begin(), load(row(1, 0, 1, 10, 19, 5, 11, 100, 7)), usage(), discover(1, 5), discover(1, 5, -1, 1)]
        self.assertEqual(last(calls + [discover(1, 5, -1, TOP)], 4),
                         [[0, 0, 0, 0, 10], [10, 11, 60], [10, 5, 60], [10, 100, 60]])

    def test_2_hole(self):
        for first, end in ((10, 10), (19, 19), (10, 19), (12, 13)):
            self.all_apply(SUBNET, row(2, 0, 1, first, end))
        self.all_apply(SUBNET, row(2, 0, 1, 12, 14), row(2, 0, 1, 13, 15), row(2, 0, 1, 13, 15))
        for ident, first, end in ((2, 12, 13), (1, 9, 12), (1, 18, 20), (1, 13, 12), (1, 0, 9), (1, 20, 21), (1, 9, 20)):
            self.stops(SUBNET, row(2, 0, ident, first, end))

    def test_2_64_holes(self):
        rows = [SUBNET, OTHER] + [row(2, 0, 1, 12, 12)] * 64
        self.all_apply(*rows)
        self.all_apply(*rows, row(2, 0, 2, 32, 32))
        self.stops(*rows, row(2, 0, 1, 12, 12))

    def test_2_it_is_there(self):
        calls = [begin(), load(joined(SUBNET, row(2, 0, 1, 10, 12))), usage(), discover(1, 5)]
        self.assertEqual(last(calls, 2), [[0, 0, 0, 0, 7], [13, 10, 60]])

    def test_3_reservation(self):
        self.all_apply(SUBNET, row(3, 0, 10, 0), row(3, 0, 19, MOST_CLIENT), row(3, 0, 15, 0))
        for address in (9, 20, 0, MOST_ADDRESS):
            self.stops(SUBNET, row(3, 0, address, 5))
        self.stops(SUBNET, row(3, 0, 12, 5), row(3, 0, 12, 5))
        self.stops(SUBNET, row(3, 0, 12, 5), row(3, 0, 12, 6))
        self.all_apply(SUBNET, row(3, 0, 12, 5), row(4, 0, 12), row(3, 0, 12, 6))

    def test_3_1024_reservations(self):
        rows = [row(1, 0, 1, 0, 2000, 5, 10, 100, 7)] + [row(3, 0, address, 5) for address in range(1024)]
        self.all_apply(*rows)
        self.stops(*rows, row(3, 0, 1024, 5))
        self.all_apply(*rows, row(4, 0, 7), row(3, 0, 1024, 5))

    def test_3_it_is_reserved_for_the_client(self):
        calls = [begin(), load(joined(SUBNET, row(3, 0, 12, 5))), discover(1, 6, 12), discover(1, 5), reserve(12, 5)]
        self.assertEqual(last(calls, 3), [[10, 10, 60], [12, 10, 60], [-7]])

    def test_4_reservation_taken_away(self):
        self.stops(SUBNET, row(4, 0, 12))
        self.stops(SUBNET, row(3, 0, 12, 5), row(4, 0, 13))
        self.stops(SUBNET, row(3, 0, 12, 5), row(4, 0, 12), row(4, 0, 12))
        calls = [begin(), load(joined(SUBNET, row(3, 0, 12, 5), row(4, 0, 12))), reserve(12, 6)]
        self.assertEqual(last(calls), [0])

    def test_5_class(self):
        self.all_apply(row(5, 0, 5, 3), row(5, 0, 5, 255), row(5, 0, 5, 0), row(5, 0, 5, 1), row(5, 0, MOST_CLIENT, 1))
        self.stops(row(5, 0, 5, 0))
        self.stops(row(5, 0, 5, 3), row(5, 0, 5, 3))
        self.stops(row(5, 0, 5, 3), row(5, 0, 5, 0), row(5, 0, 5, 0))
        self.assertEqual(last([begin(), load(row(5, 0, 5, 3)), class_of(5, 3), class_of(5, 0)], 2), [[-7], [0]])

    def test_5_1024_classes(self):
        rows = [row(5, 0, client, 3) for client in range(1024)]
        self.all_apply(*rows)
        self.stops(*rows, row(5, 0, 1024, 3))
        self.stops(*rows, row(5, 0, 1024, 0))
        self.all_apply(*rows, row(5, 0, 1023, 4), row(5, 0, 7, 0), row(5, 0, 1024, 3))
        self.stops(*rows, row(5, 0, 7, 0), row(5, 0, 1024, 3), row(5, 0, 7, 3))

    def test_6_limit(self):
        self.all_apply(SUBNET, row(6, 0, 1, 0, 0), row(6, 0, 1, 255, MOST_ADDRESS), row(6, 0, 1, 0, 0), row(6, 0, 1, 0, 5))
        self.stops(SUBNET, row(6, 0, 2, 0, 5))
        self.assertEqual(last([begin(), load(joined(SUBNET, row(6, 0, 1, 0, 0))), discover(1, 5)]), [-11])
        self.assertEqual(last([begin(), load(joined(SUBNET, row(6, 0, 1, 0, 0), row(6, 0, 1, 0, 1))), discover(1, 5)]),
                         [10, 10, 60])

    def test_6_1024_limits(self):
        rows = [row(1, 0, ident, ident, ident, 1, 1, 1, 1) for ident in range(5)]
        rows += [row(6, 0, ident, cls, 7) for ident in range(4) for cls in range(256)]
        self.all_apply(*rows)
        self.stops(*rows, row(6, 0, 4, 0, 7))
        self.all_apply(*rows, row(6, 0, 3, 255, 8), row(6, 0, 0, 0, 8))

    def test_7_option(self):
        self.all_apply(row(7, 0, 0, 0, 0), row(7, 0, 1, 255, 255), row(7, 0, 2, 255, 3), row(7, 0, 3, MOST_CLIENT, 3))
        self.all_apply(row(7, 0, 1, 0, 3), row(7, 0, 2, 0, 3), row(7, 0, 3, 0, 3), row(7, 0, 3, 0, 3, value=[1]))
        for scope, who in ((0, 1), (0, MOST_CLIENT), (1, 256), (2, 256), (1, MOST_CLIENT), (4, 0), (4, 5), (255, 0)):
            self.stops(row(5, 0, 5, 1), row(7, 0, scope, who, 3))

    def test_7_the_value(self):
        calls = [begin(), load(joined(SUBNET, row(7, 0, 3, 5, 9, value=[1, 0, 255]))), options(1, 5, [9])]
        self.assertEqual(last(calls), [1, 3, 1, 0, 255])
        calls = [begin(), load(joined(SUBNET, row(7, 0, 3, 5, 9, value=[1]), row(7, 0, 3, 5, 9))), options(1, 5, [9])]
        self.assertEqual(last(calls), [1, 0])

    def test_7_1024_options(self):
        rows = [row(7, 0, 3, who, code) for who in range(4) for code in range(256)]
        self.all_apply(*rows)
        self.stops(*rows, row(7, 0, 0, 0, 0))
        self.all_apply(*rows, row(7, 0, 3, 3, 255, value=[1]), row(8, 0, 3, 0, 0), row(7, 0, 0, 0, 0))

    def test_8_option_taken_away(self):
        there = row(7, 0, 3, 5, 9)
        for scope, who, code in ((3, 5, 8), (3, 6, 9), (2, 5, 9), (4, 5, 9)):
            self.stops(there, row(8, 0, scope, who, code))
        self.stops(there, row(8, 0, 3, 5, 9), row(8, 0, 3, 5, 9))
        self.stops(row(8, 0, 0, 0, 0))
        self.assertEqual(last([begin(), load(joined(SUBNET, there, row(8, 0, 3, 5, 9))), options(1, 5, [9])]), [0])


class Leases(ReadingBack):
    """The kind 9."""

    def record(self, expected, *rows):
        self.all_apply(*rows)
        self.assertEqual(last([begin(), load(joined(*rows)), lease(expected[0])]), list(expected))

    def test_lent_anew(self):
        self.record((15, 5, 1, 10, 0), SUBNET, LEASE)
        self.record((19, MOST_CLIENT, 1, TOP, 0), SUBNET, row(9, TOP - 1, 19, MOST_CLIENT, 1, TOP))
        self.record((10, 0, 2, 1, 0), SUBNET, LEASE, row(9, 0, 10, 0, 2, 1))

    def test_in_no_subnet(self):
        for address in (9, 20, 0, MOST_ADDRESS):
            self.stops(SUBNET, row(9, 0, address, 5, 1, 10))
        self.stops(LEASE)

    def test_the_end(self):
        self.all_apply(SUBNET, row(9, 3, 15, 5, 1, 4))
        self.all_apply(SUBNET, row(9, 3, 15, 5, 1, TOP))
        for end in (3, 2, 0, TOP + 1, 2 ** 64 - 1):
            self.stops(SUBNET, row(9, 3, 15, 5, 1, end))
        self.stops(SUBNET, row(9, TOP, 15, 5, 1, TOP))
        self.stops(SUBNET, row(9, TOP, 15, 5, 1, TOP + 1))
        self.stops(SUBNET, LEASE, row(9, 0, 15, 5, 1, TOP + 1))

    def test_the_number_is_count_and_one(self):
        for number in (0, 2, 3, TOP, 2 ** 64 - 1):
            self.stops(SUBNET, row(9, 0, 15, 5, number, 10))
        for number in (0, 1, 3):
            self.stops(SUBNET, LEASE, row(9, 0, 16, 6, number, 10))
        self.all_apply(SUBNET, LEASE, row(9, 0, 16, 6, 2, 10), row(9, 0, 17, 7, 3, 10))
        self.all_apply(SUBNET, row(13, 0, 7), row(9, 0, 15, 5, 8, 10))
        self.stops(SUBNET, row(13, 0, 7), row(9, 0, 15, 5, 7, 10))
        self.stops(SUBNET, row(13, 0, 7), row(9, 0, 15, 5, 1, 10))

    def test_the_greatest_number(self):
        self.record((15, 5, TOP, 10, 0), SUBNET, row(13, 0, TOP - 1), row(9, 0, 15, 5, TOP, 10))
        self.stops(SUBNET, row(13, 0, TOP), row(9, 0, 15, 5, TOP + 1, 10))
        self.stops(SUBNET, row(13, 0, TOP), row(9, 0, 15, 5, TOP, 10))

    def test_renewed(self):
        self.record((15, 5, 1, 20, 0), SUBNET, LEASE, row(9, 9, 15, 5, 1, 20))
        self.record((15, 5, 1, 10, 0), SUBNET, LEASE, row(9, 9, 15, 5, 1, 10))
        self.record((15, 5, 1, TOP, 0), SUBNET, LEASE, row(9, 9, 15, 5, 1, TOP))
        self.record((15, 5, 1, 30, 0), SUBNET, LEASE, row(9, 0, 15, 5, 1, 20), row(9, 19, 15, 5, 1, 30))

    def test_renewed_count_stays(self):
        self.all_apply(SUBNET, LEASE, row(9, 0, 16, 6, 2, 10), row(9, 1, 15, 5, 1, 20), row(9, 1, 17, 7, 3, 10))

    def test_live_but_not_renewed(self):
        for client, number, end in ((6, 1, 20), (5, 2, 20), (5, 0, 20), (5, 1, 9), (6, 2, 20)):
            with self.subTest(client=client, number=number, end=end):
                self.stops(SUBNET, LEASE, row(9, 1, 15, client, number, end))

    def test_renewed_in_a_hole_or_reserved_for_another(self):
        """What may not be lent any more is refused to the client by the calls; a row applies all the same."""
        self.all_apply(SUBNET, LEASE, row(2, 0, 1, 15, 15), row(3, 0, 15, 6), row(9, 9, 15, 5, 1, 20))
        self.all_apply(SUBNET, row(2, 0, 1, 15, 15), row(3, 0, 15, 6), row(6, 0, 1, 0, 0), LEASE)

    def test_on_a_record_that_is_over(self):
        self.record((15, 6, 2, 20, 0), SUBNET, LEASE, row(9, 10, 15, 6, 2, 20))
        self.record((15, 5, 2, 20, 0), SUBNET, LEASE, row(9, 10, 15, 5, 2, 20))
        self.record((15, 6, 2, 20, 0), SUBNET, LEASE, row(10, 3, 15, 1), row(9, 3, 15, 6, 2, 20))
        self.record((15, 6, 2, 20, 0), SUBNET, LEASE, row(11, 3, 15, 1, 8), row(9, 8, 15, 6, 2, 20))
        self.stops(SUBNET, LEASE, row(9, 9, 15, 6, 2, 20))
        self.stops(SUBNET, LEASE, row(9, 10, 15, 5, 1, 20))
        self.stops(SUBNET, LEASE, row(10, 3, 15, 1), row(9, 3, 15, 5, 1, 20))

    def test_on_a_record_that_rests(self):
        resting = [SUBNET, LEASE, row(11, 3, 15, 1, 8)]
        self.stops(*resting, row(9, 7, 15, 6, 2, 20))
        self.stops(*resting, row(9, 7, 15, 5, 2, 20))
        self.stops(*resting, row(9, 7, 15, 5, 1, 20))
        self.stops(*resting, row(9, 8, 15, 5, 1, 20))

    def test_the_client_has_a_live_lease_in_the_subnet(self):
        self.stops(SUBNET, LEASE, row(9, 0, 16, 5, 2, 10))
        self.stops(SUBNET, LEASE, row(9, 9, 16, 5, 2, 20))
        self.all_apply(SUBNET, LEASE, row(9, 10, 16, 5, 2, 20))
        self.all_apply(SUBNET, LEASE, row(10, 3, 15, 1), row(9, 3, 16, 5, 2, 20))
        self.all_apply(SUBNET, LEASE, row(11, 3, 15, 1, 90), row(9, 3, 16, 5, 2, 20))
        self.all_apply(SUBNET, OTHER, LEASE, row(9, 0, 35, 5, 2, 10))
        self.stops(SUBNET, LEASE, row(9, 0, 16, 6, 2, 10), row(10, 1, 16, 2), row(9, 1, 16, 5, 3, 10))


class Others(ReadingBack):
    """The kinds 10 to 13."""

    def record(self, expected, *rows):
        self.all_apply(*rows)
        self.assertEqual(last([begin(), load(joined(*rows)), lease(expected[0])]), list(expected))

    def test_10_given_back(self):
        self.record((15, 5, 1, 3, 1), SUBNET, LEASE, row(10, 3, 15, 1))
        self.record((15, 5, 1, 0, 1), SUBNET, LEASE, row(10, 0, 15, 1))
        self.record((15, 5, 1, 9, 1), SUBNET, LEASE, row(10, 9, 15, 1))

    def test_10_not_live_or_another_number(self):
        self.stops(SUBNET, row(10, 0, 15, 1))
        self.stops(SUBNET, LEASE, row(10, 0, 16, 1))
        self.stops(SUBNET, LEASE, row(10, 0, 9, 1))
        self.stops(SUBNET, LEASE, row(10, 0, 15, 2))
        self.stops(SUBNET, LEASE, row(10, 0, 15, 0))
        self.stops(SUBNET, LEASE, row(10, 10, 15, 1))
        self.stops(SUBNET, LEASE, row(10, 3, 15, 1), row(10, 3, 15, 1))
        self.stops(SUBNET, LEASE, row(11, 3, 15, 1, 20), row(10, 3, 15, 1))

    def test_11_rest(self):
        self.record((15, 5, 1, 20, 2), SUBNET, LEASE, row(11, 3, 15, 1, 20))
        self.record((15, 5, 1, 4, 2), SUBNET, LEASE, row(11, 3, 15, 1, 4))
        self.record((15, 5, 1, TOP, 2), SUBNET, LEASE, row(11, 3, 15, 1, TOP))

    def test_11_not_live_or_another_number_or_end(self):
        self.stops(SUBNET, row(11, 0, 15, 1, 20))
        self.stops(SUBNET, LEASE, row(11, 0, 16, 1, 20))
        self.stops(SUBNET, LEASE, row(11, 0, 15, 2, 20))
        self.stops(SUBNET, LEASE, row(11, 0, 15, 0, 20))
        self.stops(SUBNET, LEASE, row(11, 10, 15, 1, 20))
        self.stops(SUBNET, LEASE, row(10, 3, 15, 1), row(11, 3, 15, 1, 20))
        self.stops(SUBNET, LEASE, row(11, 3, 15, 1, 20), row(11, 3, 15, 1, 20))
        for end in (3, 2, 0, TOP + 1, 2 ** 64 - 1):
            self.stops(SUBNET, LEASE, row(11, 3, 15, 1, end))

    def test_12_record_of_each_kind(self):
        for kind, ends in ((0, (0, 2, 3, 4, TOP)), (1, (0, 2, 3)), (2, (0, 2, 3, 4, TOP))):
            for end in ends:
                with self.subTest(kind=kind, end=end):
                    self.record((15, 5, 8, end, kind), SUBNET, row(12, 3, 15, 5, 8, end, kind))

    def test_12_the_end(self):
        for kind, ends in ((0, (TOP + 1, 2 ** 64 - 1)), (1, (4, TOP, TOP + 1)), (2, (TOP + 1, 2 ** 64 - 1))):
            for end in ends:
                with self.subTest(kind=kind, end=end):
                    self.stops(SUBNET, row(12, 3, 15, 5, 8, end, kind))

    def test_12_kinds_that_there_are_not(self):
        for kind in (3, 4, 255):
            self.stops(SUBNET, row(12, 3, 15, 5, 8, 3, kind))

    def test_12_in_no_subnet(self):
        for address in (9, 20, 0, MOST_ADDRESS):
            self.stops(SUBNET, row(12, 0, address, 5, 8, 10, 0))
        self.stops(row(12, 0, 15, 5, 8, 10, 0))

    def test_12_the_address_has_a_record(self):
        for kind in (0, 1, 2):
            self.stops(SUBNET, row(12, 0, 15, 5, 8, 0, kind), row(12, 9, 15, 5, 9, 0, kind))
            self.stops(SUBNET, row(12, 0, 15, 5, 8, 0, kind), row(12, 9, 15, 6, 9, 20, 0))
        self.stops(SUBNET, LEASE, row(12, 20, 15, 5, 9, 30, 0))

    def test_12_the_number(self):
        self.record((15, 5, 1, 10, 0), SUBNET, row(12, 0, 15, 5, 1, 10, 0))
        self.record((15, 5, TOP, 10, 0), SUBNET, row(12, 0, 15, 5, TOP, 10, 0))
        for number in (0, TOP + 1, 2 ** 64 - 1):
            self.stops(SUBNET, row(12, 0, 15, 5, number, 10, 0))

    def test_12_a_number_that_a_record_has(self):
        for kind in (0, 1, 2):
            first = row(12, 0, 15, 5, 8, 0, kind)
            self.stops(SUBNET, first, row(12, 0, 16, 6, 8, 10, 0))
            self.stops(SUBNET, first, row(12, 0, 14, 6, 9, 10, 0), row(12, 0, 16, 7, 8, 10, 0))
            self.all_apply(SUBNET, first, row(12, 0, 16, 6, 7, 10, 0), row(12, 0, 17, 7, 9, 10, 0))
        self.stops(SUBNET, LEASE, row(12, 20, 16, 6, 1, 30, 0))

    def test_12_a_number_that_no_record_has_any_more(self):
        again = [SUBNET, LEASE, row(9, 10, 15, 5, 2, 20)]
        self.all_apply(*again, row(12, 10, 16, 6, 1, 20, 0))
        self.stops(*again, row(12, 10, 16, 6, 2, 20, 0))

    def test_12_the_client_has_a_live_lease_in_the_subnet(self):
        self.stops(SUBNET, LEASE, row(12, 0, 16, 5, 2, 10, 0))
        self.stops(SUBNET, LEASE, row(12, 9, 16, 5, 2, 10, 0))
        self.stops(SUBNET, row(12, 0, 15, 5, 8, 10, 0), row(12, 0, 16, 5, 2, 1, 0))
        self.all_apply(SUBNET, LEASE, row(12, 9, 16, 5, 2, 9, 0))
        self.all_apply(SUBNET, LEASE, row(12, 9, 16, 5, 2, 9, 1))
        self.all_apply(SUBNET, LEASE, row(12, 9, 16, 5, 2, 20, 2))
        self.all_apply(SUBNET, LEASE, row(12, 10, 16, 5, 2, 20, 0))
        self.all_apply(SUBNET, OTHER, LEASE, row(12, 0, 35, 5, 2, 10, 0))
        self.all_apply(SUBNET, LEASE, row(12, 0, 16, 6, 2, 10, 0))

    def test_12_count_is_the_greater(self):
        self.all_apply(SUBNET, row(12, 0, 15, 5, 8, 10, 0), row(9, 0, 16, 6, 9, 10))
        self.all_apply(SUBNET, row(13, 0, 20), row(12, 0, 15, 5, 8, 10, 0), row(9, 0, 16, 6, 21, 10))
        self.stops(SUBNET, row(13, 0, 20), row(12, 0, 15, 5, 8, 10, 0), row(9, 0, 16, 6, 9, 10))
        self.all_apply(SUBNET, row(12, 0, 15, 5, 8, 10, 0), row(12, 0, 14, 4, 7, 10, 0), row(9, 0, 16, 6, 9, 10))

    def test_12_each_kind_is_what_it_says(self):
        lent = joined(SUBNET, row(12, 3, 15, 5, 8, 20, 0), row(12, 3, 16, 6, 9, 3, 1), row(12, 3, 17, 7, 4, 20, 2))
        self.assertEqual(last([begin(), load(lent), usage(), ending()], 2), [[1, 1, 1, 0, 8], [1, 15, 5, 8, 20, 0]])

    def test_13_count(self):
        self.all_apply(row(13, 0, 0), row(13, 0, 0), row(13, 0, 7), row(13, 0, 7), row(13, 0, TOP), row(13, 0, TOP))
        self.stops(row(13, 0, 7), row(13, 0, 6))
        self.stops(SUBNET, LEASE, row(13, 0, 0))
        self.stops(SUBNET, row(12, 0, 15, 5, 8, 10, 0), row(13, 0, 7))
        self.stops(row(13, 0, TOP + 1))
        self.stops(row(13, 0, 2 ** 64 - 1))

    def test_13_the_next_lease_has_the_next_number(self):
        self.assertEqual(last([begin(), load(joined(SUBNET, row(13, 0, 7)))] + lend(5, 15)), [8, 10])

    def test_13_no_number_is_left(self):
        greatest = load(joined(SUBNET, row(13, 0, TOP)))
        self.assertEqual(last([begin(), greatest, *lend(5, 15), limit(1, 0, 0), request(5, 15)], 3), [[-5], [0], [-11]])
        almost = load(joined(SUBNET, row(13, 0, TOP - 1)))
        self.assertEqual(last([begin(), almost, *lend(5, 15), *lend(6, 16), request(5, 15)], 4),
                         [[TOP, 10], [16, 10, 60], [-5], [TOP, 10]])
        self.assertEqual(last([begin(73), greatest, *lend(5, 15)]), [-5])
        self.assertEqual(last([begin(73), almost, *lend(5, 15)]), [-9])


class TooManyRecords(ReadingBack):
    LENT = [SUBNET, LEASE, row(9, 0, 16, 6, 2, 10)]

    def test_stops_before_a_lease_too_many(self):
        third = row(9, 0, 17, 7, 3, 10)
        self.all_apply(*self.LENT, third, before=[begin(records=3)])
        self.stops(*self.LENT, third, before=[begin(records=2)])
        self.reads(2, self.LENT, before=[begin(records=1)])

    def test_stops_before_a_record_too_many(self):
        for kind in (0, 1, 2):
            third = row(12, 0, 17, 7, 3, 0, kind)
            self.all_apply(*self.LENT, third, before=[begin(records=3)])
            self.stops(*self.LENT, third, before=[begin(records=2)])

    def test_other_rows_go_on(self):
        rest = [
            row(9, 1, 15, 5, 1, 20), row(10, 2, 16, 2), row(9, 2, 16, 7, 3, 20), row(11, 3, 15, 1, 9), row(13, 3, 8),
            row(5, 3, 5, 1), row(1, 3, 2, 30, 39, 5, 10, 100, 7), row(3, 3, 17, 6),
        ]
        self.all_apply(*self.LENT, *rest, before=[begin(records=2)])
        self.stops(*self.LENT, *rest, row(9, 3, 17, 6, 9, 20), before=[begin(records=2)])

    def test_it_leaves_what_was_applied(self):
        calls = [begin(records=1), load(joined(*self.LENT)), lease(15), lease(16), usage(), crash(0)]
        self.assertEqual(last(calls, 4), [[15, 5, 1, 10, 0], [-8], [1, 0, 0, 0, 9], [2, 53 + 38]])

    def test_the_records_told_at_begin_count(self):
        calls = [begin(records=9), begin(records=1), load(joined(*self.LENT)), begin(records=9), load(joined(*self.LENT))]
        self.assertEqual(last(calls, 3), [[2, 91], [0], [3, 129]])


class Options(ReadingBack):
    def test_options_read_back_and_told_again(self):
        calls = [begin(), subnet(), option(0, 0, 9, [1, 2]), option(0, 0, 8, [3]), crash(0), options(1, 5, [9, 8])]
        self.assertEqual(last(calls, 2), [[3, 53 + 22 + 21], [1, 2, 1, 2, 1, 1, 3]])


if __name__ == "__main__":
    unittest.main()
