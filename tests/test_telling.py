"""options, lease, leases, ending, usage and offers."""

import unittest

from helper import (
    MOST_ADDRESS, MOST_CLIENT, TOP, ask, begin, class_of, crash, decline, discover, ending, hole, last, lease, leases,
    lend, limit, load, offers, option, options, release, renew, request, reserve, row, subnet, tick, unoption,
    unreserve, usage,
)


class Options(unittest.TestCase):
    # Code 9 has a value in each scope, the codes 8, 7, 6 in one scope less each.
    SET = [
        begin(), subnet(), subnet(2, 20, 29), class_of(5, 4), option(3, 5, 9, [3, 5]), option(1, 1, 9, [1]),
        option(2, 4, 9, [2]), option(0, 0, 9, [0]), option(1, 1, 8, [1, 1]), option(2, 4, 8, [2]), option(0, 0, 8, [0]),
        option(2, 4, 7, [2, 2]), option(0, 0, 7, [0]), option(0, 0, 6, [0, 0]),
    ]

    def told(self, given, *calls):
        self.assertEqual(last(self.SET + list(calls)), given)

    def test_the_four_scopes_in_turn(self):
        self.told([1, 2, 3, 5], options(1, 5, [9]))
        self.told([1, 2, 1, 1], options(1, 5, [8]))
        self.told([1, 2, 2, 2], options(1, 5, [7]))
        self.told([1, 2, 0, 0], options(1, 5, [6]))
        self.told([0], options(1, 5, [5]))

    def test_when_one_scope_is_taken_away_the_next_counts(self):
        gone = [unoption(3, 5, 9), unoption(1, 1, 9), unoption(2, 4, 9), unoption(0, 0, 9)]
        for count, given in enumerate(([1, 2, 3, 5], [1, 1, 1], [1, 1, 2], [1, 1, 0], [0])):
            self.told(given, *gone[:count], options(1, 5, [9]))

    def test_each_scope_alone(self):
        for scope, who in ((3, 5), (1, 1), (2, 4), (0, 0)):
            calls = [begin(), subnet(), class_of(5, 4), option(scope, who, 9, [scope, 77]), options(1, 5, [9])]
            self.assertEqual(last(calls), [1, 2, scope, 77])

    def test_another_client_subnet_and_class(self):
        self.told([1, 1, 1], options(1, 6, [9]))
        self.told([1, 1, 0], options(2, 6, [9]))
        self.told([1, 2, 3, 5], options(2, 5, [9]))
        self.told([1, 1, 2], options(2, 5, [8]))
        self.told([1, 1, 2], class_of(6, 4), options(2, 6, [9]))
        self.told([1, 1, 0], class_of(6, 3), options(2, 6, [9]))
        self.told([1, 1, 0], class_of(5, 0), options(2, 5, [8]))

    def test_a_client_without_a_class_has_class_0(self):
        self.told([1, 1, 99], option(2, 0, 7, [99]), options(1, 6, [7]))
        self.told([1, 2, 2, 2], option(2, 0, 7, [99]), options(1, 5, [7]))
        self.told([1, 1, 99], option(2, 0, 7, [99]), class_of(5, 0), options(1, 5, [7]))
        self.told([1, 1, 0], option(2, 0, 7, [99]), unoption(2, 0, 7), options(1, 6, [7]))

    def test_who_is_not_mixed_up_among_the_scopes(self):
        calls = [begin(), subnet(7), class_of(5, 8), option(1, 5, 9, [1]), option(1, 8, 9, [2]), option(2, 5, 9, [3])]
        calls += [option(2, 7, 9, [4]), option(3, 7, 9, [5]), option(3, 8, 9, [6])]
        self.assertEqual(last(calls + [options(7, 5, [9])]), [0])

    def test_codes_in_their_order(self):
        self.told([0, 1, 2, 0, 0, 1, 2, 2, 2, 0, 1, 2, 3, 5], options(1, 5, [0, 6, 7, 255, 9]))

    def test_a_code_twice(self):
        self.told([1, 2, 3, 5, 0, 1, 2, 3, 5, 1, 2, 3, 5], options(1, 5, [9, 1, 9, 9]))

    def test_no_codes_and_no_numbers(self):
        self.assertEqual(ask(self.SET + [options(1, 5), tick(1)])[-2:], [[], [1]])

    def test_an_empty_value_is_a_value(self):
        self.told([1, 0, 1, 0], option(3, 5, 9, []), options(1, 5, [9, 9]))

    def test_greatest_values_and_64_codes(self):
        value = list(range(192, 256))
        self.told(([1, 64] + value) * 64, option(3, 5, 255, value), options(1, 5, [255] * 64))

    def test_a_value_told_again(self):
        self.told([1, 1, 77], option(3, 5, 9, [77]), options(1, 5, [9]))

    def test_greatest_who(self):
        self.told([1, 1, 7], option(3, MOST_CLIENT, 1, [7]), options(1, MOST_CLIENT, [1]))
        self.told([1, 1, 7], subnet(255, 50, 50), option(1, 255, 1, [7]), options(255, 0, [1]))
        self.told([1, 1, 7], class_of(0, 255), option(2, 255, 1, [7]), options(1, 0, [1]))

    def test_no_subnet(self):
        self.told([-4], options(3, 5, [9]))
        self.told([-4], options(3, 5))
        self.told([-4], option(1, 3, 9), options(3, 5, [9]))

    def test_nothing_changes(self):
        self.assertEqual(last(self.SET + [options(1, 5, [9, 1])] * 3, 3), [[1, 2, 3, 5, 0]] * 3)


class Lease(unittest.TestCase):
    def test_a_record_of_each_kind(self):
        calls = [begin(), subnet(), *lend(5, 15), *lend(6, 16), *lend(7, 17), tick(4), release(6, 16, 2), decline(7, 17, 3)]
        self.assertEqual(last(calls + [lease(15), lease(16), lease(17)], 3),
                         [[15, 5, 1, 10, 0], [16, 6, 2, 4, 1], [17, 7, 3, 11, 2]])

    def test_what_is_over_stays(self):
        calls = [begin(), subnet(), *lend(5, 15), tick(1000), lease(15)]
        self.assertEqual(last(calls), [15, 5, 1, 10, 0])

    def test_put_in_the_place_of_an_older_one(self):
        calls = [begin(), subnet(), *lend(5, 15), tick(10), *lend(6, 15), lease(15)]
        self.assertEqual(last(calls), [15, 6, 2, 20, 0])

    def test_no_record(self):
        calls = [begin(), subnet(), *lend(5, 15), discover(1, 6, 16), reserve(17, 6)]
        for address in (14, 16, 17, 9, 0, MOST_ADDRESS):
            self.assertEqual(last(calls + [lease(address)]), [-8])

    def test_least_and_greatest_address(self):
        calls = [begin(), subnet(1, 0, MOST_ADDRESS), *lend(0, 0), *lend(MOST_CLIENT, MOST_ADDRESS)]
        self.assertEqual(last(calls + [lease(0), lease(MOST_ADDRESS)], 2),
                         [[0, 0, 1, 10, 0], [MOST_ADDRESS, MOST_CLIENT, 2, 10, 0]])


class Leases(unittest.TestCase):
    CALLS = [
        begin(), subnet(1, 10, 19), subnet(2, 0, 9), subnet(3, 20, 29), *lend(5, 15), *lend(6, 18), *lend(5, 9, ident=2),
        *lend(5, 20, ident=3), tick(2), release(5, 15, 1), decline(5, 20, 4),
    ]

    def test_by_address_whatever_their_kind(self):
        self.assertEqual(last(self.CALLS + [leases(5)]), [3, 9, 5, 3, 10, 0, 15, 5, 1, 2, 1, 20, 5, 4, 9, 2])
        self.assertEqual(last(self.CALLS + [leases(6)]), [1, 18, 6, 2, 10, 0])

    def test_what_is_over_is_told_too(self):
        self.assertEqual(last(self.CALLS + [tick(1000), leases(5)])[0], 3)

    def test_none(self):
        self.assertEqual(last(self.CALLS + [leases(7)]), [0])
        self.assertEqual(last([begin(), leases(0)]), [0])
        self.assertEqual(last([begin(), subnet(), discover(1, 5), leases(5)]), [0])

    def test_lent_to_another_it_is_the_others(self):
        calls = self.CALLS + lend(7, 15)
        self.assertEqual(last(calls + [leases(7), leases(5)], 2),
                         [[1, 15, 7, 5, 12, 0], [2, 9, 5, 3, 10, 0, 20, 5, 4, 9, 2]])

    def test_several_of_one_subnet(self):
        calls = [begin(), subnet(), *lend(5, 17), tick(10), *lend(5, 12), tick(10), *lend(5, 15), leases(5)]
        self.assertEqual(last(calls), [3, 12, 5, 2, 20, 0, 15, 5, 3, 30, 0, 17, 5, 1, 10, 0])


class Ending(unittest.TestCase):
    LENT = [
        begin(), subnet(1, 10, 30), *lend(5, 15, length=20), *lend(6, 16, length=10), *lend(7, 14, length=20),
        *lend(8, 13, length=30), *lend(9, 17, length=10), tick(1),
    ]
    ROWS = [[16, 6, 2, 10, 0], [17, 9, 5, 10, 0], [14, 7, 3, 20, 0], [15, 5, 1, 20, 0], [13, 8, 4, 30, 0]]

    def told(self, rows, *calls):
        self.assertEqual(last(self.LENT + list(calls)), [len(rows)] + [number for one in rows for number in one])

    def test_by_end_then_by_address(self):
        self.told(self.ROWS, ending())

    def test_up_to_a_time(self):
        for upto, count in ((0, 0), (9, 0), (10, 2), (11, 2), (19, 2), (20, 4), (29, 4), (30, 5), (31, 5), (TOP, 5)):
            self.told(self.ROWS[:count], ending(upto))

    def test_only_the_first_of_them(self):
        for most in (0, 1, 2, 3, 4, 5, 6, 64):
            self.told(self.ROWS[:most], ending(TOP, most))
        self.told(self.ROWS[:1], ending(10, 1))

    def test_only_what_is_live_now(self):
        self.told(self.ROWS, tick(8), ending())
        self.told(self.ROWS[2:], tick(9), ending())
        self.told([], tick(9), ending(10))
        self.told(self.ROWS[:4], release(8, 13, 4), ending())
        self.told(self.ROWS[:4], decline(8, 13, 4), ending())
        self.told([], tick(29), ending())

    def test_a_renewed_one_has_a_later_end(self):
        self.told(self.ROWS[1:] + [[16, 6, 2, 51, 0]], renew(6, 16, 2, 50), ending())

    def test_of_all_subnets(self):
        self.told([[40, 6, 6, 6, 0]] + self.ROWS, subnet(2, 40, 40), *lend(6, 40, ident=2, length=5), ending())

    def test_64_of_more(self):
        calls = [begin(), subnet(1, 0, 99)]
        for client in range(70):
            calls += lend(client, 99 - client)
        given = last(calls + [ending()])
        self.assertEqual((given[0], len(given)), (64, 1 + 5 * 64))
        self.assertEqual(given[1::5], list(range(30, 94)))

    def test_at_the_end_of_time(self):
        calls = [begin(), subnet(most=TOP), *lend(5, 15, length=TOP)]
        self.assertEqual(last(calls + [ending(TOP - 1), ending(TOP)], 2), [[0], [1, 15, 5, 1, TOP, 0]])

    def test_none(self):
        self.assertEqual(last([begin(), ending()]), [0])


class Usage(unittest.TestCase):
    def used(self, given, *calls):
        self.assertEqual(last([begin(), subnet(), *calls, usage()]), given)

    def test_an_untouched_subnet(self):
        self.used([0, 0, 0, 0, 10])

    def test_records_of_each_kind(self):
        lent = [*lend(5, 15), *lend(6, 16), *lend(7, 17), *lend(8, 18), tick(4)]
        self.used([4, 0, 0, 0, 6], *lent)
        self.used([3, 0, 1, 0, 7], *lent, release(5, 15, 1))
        self.used([2, 1, 1, 0, 7], *lent, release(5, 15, 1), decline(6, 16, 2))
        self.used([2, 1, 1, 0, 7], *lent, release(5, 15, 1), decline(6, 16, 2), tick(5))
        self.used([0, 1, 3, 0, 9], *lent, release(5, 15, 1), decline(6, 16, 2), tick(6))
        self.used([0, 0, 4, 0, 10], *lent, release(5, 15, 1), decline(6, 16, 2), tick(7))

    def test_offers_that_stand(self):
        self.used([0, 0, 0, 2, 8], discover(1, 5), discover(1, 6))
        self.used([0, 0, 0, 2, 8], discover(1, 5), discover(1, 6), tick(59))
        self.used([0, 0, 0, 0, 10], discover(1, 5), discover(1, 6), tick(60))
        self.used([1, 0, 0, 1, 8], discover(1, 5), discover(1, 6), request(5, 10))

    def test_an_offer_of_an_address_with_a_record_that_is_over(self):
        self.used([0, 0, 1, 1, 9], *lend(5, 15), tick(10), discover(1, 6, 15))

    def test_offers_and_records_of_other_subnets(self):
        self.used([0, 0, 0, 0, 10], subnet(2, 20, 29), subnet(3, 0, 9), discover(2, 5), *lend(6, 9, ident=3), reserve(21, 5))
        self.assertEqual(
            last([begin(), subnet(), subnet(2, 20, 29), *lend(6, 20, ident=2), discover(2, 5), reserve(25, 1), usage(2)]),
            [1, 0, 0, 1, 7],
        )

    def test_the_edges_of_a_subnet(self):
        self.used([2, 0, 0, 0, 8], *lend(5, 10), *lend(6, 19))
        self.used([0, 0, 0, 2, 8], discover(1, 5, 10), discover(1, 6, 19))
        self.used([0, 0, 0, 0, 8], reserve(10, 1), reserve(19, 1))

    def test_holes(self):
        for holes, left in (
            ([(12, 13)], 8), ([(10, 10)], 9), ([(19, 19)], 9), ([(10, 19)], 0), ([(12, 13), (14, 15)], 6),
            ([(14, 15), (12, 13)], 6), ([(12, 15), (14, 17)], 4), ([(14, 17), (12, 15)], 4), ([(11, 18), (13, 14)], 2),
            ([(13, 14), (11, 18)], 2), ([(12, 13), (12, 13)], 8), ([(11, 12), (11, 16), (16, 16), (18, 18)], 3),
            ([(10, 14), (15, 19)], 0), ([(10, 18), (12, 13)], 1), ([(11, 11), (13, 13), (12, 12)], 7),
        ):
            with self.subTest(holes=holes):
                self.used([0, 0, 0, 0, left], *[hole(1, first, end) for first, end in holes])

    def test_reserved_in_holes_and_out_of_them(self):
        self.used([0, 0, 0, 0, 9], reserve(12, 5))
        self.used([0, 0, 0, 0, 8], reserve(12, 5), hole(1, 12, 13))
        self.used([0, 0, 0, 0, 7], reserve(12, 5), hole(1, 12, 13), reserve(14, 5))
        self.used([0, 0, 0, 0, 8], reserve(12, 5), hole(1, 12, 13), reserve(14, 5), unreserve(14), unreserve(12))

    def test_all_but_the_last_number_count_holes_too(self):
        lent = [*lend(5, 15), *lend(6, 16), *lend(7, 17), discover(1, 8, 18), tick(4), release(5, 15, 1), decline(6, 16, 2)]
        self.used([1, 1, 1, 1, 7], *lent)
        self.used([1, 1, 1, 1, 6], *lent, hole(1, 15, 18))
        self.used([1, 1, 1, 1, 0], *lent, hole(1, 10, 19))
        self.used([1, 1, 1, 1, 7], *lent, hole(1, 16, 18))

    def test_an_address_touched_in_several_ways_counts_once(self):
        self.used([1, 0, 0, 0, 9], *lend(5, 15), reserve(15, 5))
        self.used([0, 0, 0, 1, 9], discover(1, 5, 15), reserve(15, 5))
        self.used([0, 0, 1, 1, 9], *lend(5, 15), tick(10), discover(1, 6, 15), reserve(15, 6))
        self.used([0, 0, 1, 0, 9], *lend(5, 15), tick(10), reserve(15, 6))
        self.used([0, 1, 0, 0, 9], *lend(5, 15), decline(5, 15, 1), reserve(15, 6))

    def test_the_greatest_subnet(self):
        calls = [begin(), subnet(1, 0, MOST_ADDRESS), hole(1, 5, MOST_ADDRESS - 5), reserve(0, 1), usage()]
        self.assertEqual(last([begin(), subnet(1, 0, MOST_ADDRESS), usage()]), [0, 0, 0, 0, 2 ** 32])
        self.assertEqual(last(calls), [0, 0, 0, 0, 9])

    def test_no_subnet(self):
        self.assertEqual(last([begin(), subnet(), usage(2)]), [-4])
        self.assertEqual(last([begin(), subnet(), usage(0)]), [-4])

    def test_limits_do_not_matter(self):
        self.used([0, 0, 0, 0, 10], limit(1, 0, 0))


class Offers(unittest.TestCase):
    def test_by_address(self):
        calls = [begin(hold=60), subnet(), subnet(2, 0, 9), discover(1, 5, 15), tick(1), discover(1, 6, 12), discover(2, 5, 9)]
        self.assertEqual(last(calls + [offers()]), [3, 9, 5, 61, 12, 6, 61, 15, 5, 60])

    def test_only_those_that_stand(self):
        calls = [begin(hold=60), subnet(), discover(1, 5, 15), tick(1), discover(1, 6, 12)]
        self.assertEqual(last(calls + [tick(58), offers()]), [2, 12, 6, 61, 15, 5, 60])
        self.assertEqual(last(calls + [tick(59), offers()]), [1, 12, 6, 61])
        self.assertEqual(last(calls + [tick(60), offers()]), [0])

    def test_gone_when_it_is_taken_up_and_when_another_comes(self):
        calls = [begin(), subnet(), discover(1, 5, 15), discover(1, 6, 12)]
        self.assertEqual(last(calls + [request(5, 15), offers()]), [1, 12, 6, 60])
        self.assertEqual(last(calls + [discover(1, 5, 14), offers()]), [2, 12, 6, 60, 14, 5, 60])
        self.assertEqual(last(calls + [discover(1, 5, 12), offers()]), [2, 10, 5, 60, 12, 6, 60])

    def test_an_offer_that_is_of_no_use_any_more_stands(self):
        calls = [begin(), subnet(), discover(1, 5, 15), hole(1, 15, 15), reserve(15, 6), limit(1, 0, 0), offers()]
        self.assertEqual(last(calls), [1, 15, 5, 60])

    def test_none_for_a_lease_that_stands(self):
        self.assertEqual(last([begin(), subnet(), *lend(5, 15), discover(1, 5), offers()]), [0])

    def test_none_at_the_end_of_time(self):
        calls = [begin(hold=5), subnet(), tick(TOP - 1), discover(1, 5), offers(), tick(1), offers(), discover(1, 6), offers()]
        self.assertEqual(last(calls, 5), [[1, 10, 5, TOP], [TOP], [0], [10, 10, TOP], [0]])

    def test_none_when_begun_anew_or_read_back(self):
        calls = [begin(), subnet(), discover(1, 5, 15)]
        for call in (begin(), crash(0), load([]), load(row(13, 0, 0))):
            self.assertEqual(last(calls + [call, offers()]), [0])

    def test_256_of_them(self):
        calls = [begin(), subnet(1, 0, 999)] + [discover(1, client, 900 - client) for client in range(256)]
        given = last(calls + [offers()])
        self.assertEqual((given[0], len(given)), (256, 1 + 3 * 256))
        self.assertEqual(given[1::3], list(range(645, 901)))


if __name__ == "__main__":
    unittest.main()
