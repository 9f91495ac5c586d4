"""The calls begin to unoption: ordinary uses, their own refusals and the order of these."""

import unittest

from helper import (
    MOST_ADDRESS, MOST_CLIENT, TOP, ask, begin, class_of, discover, hole, last, lend, limit, option, renew, request,
    reserve, subnet, tick, unoption, unreserve,
)


class Begin(unittest.TestCase):
    def test_answers_0(self):
        self.assertEqual(ask([begin()]), [[0]])

    def test_least_and_greatest_numbers(self):
        self.assertEqual(ask([begin(64, 1, 1), begin(1000000, 4096, 2147483648)]), [[0], [0]])

    def test_begun_anew_in_the_midst(self):
        first = [
            begin(), tick(5), subnet(), hole(1, 19, 19), reserve(10, 7), class_of(3, 4), limit(1, 4, 1),
            option(0, 0, 1, [1]), *lend(8, 11), discover(1, 9, 12),
        ]
        again = [
            begin(1000, 9, 30), tick(0), discover(1, 9), unreserve(10), class_of(3, 0), unoption(0, 0, 1),
            renew(8, 11, 1), subnet(), request(9, 12), discover(1, 5), request(5, 10), discover(1, 6, 19),
        ]
        self.assertEqual(
            ask(first + again)[len(first):],
            [[0], [0], [-4], [-8], [-7], [-8], [-8], [0], [-8], [10, 10, 30], [1, 10], [19, 10, 30]],
        )

    def test_begun_anew_the_journal_is_empty(self):
        self.assertEqual(ask([begin(64), subnet(), hole(1, 10, 10), begin(74), subnet(), hole(1, 10, 10)]),
                         [[0], [0], [-9], [0], [0], [0]])

    def test_limit_is_gone_when_begun_anew(self):
        self.assertEqual(last([begin(), subnet(), limit(1, 0, 0), begin(), subnet(), discover(1, 1)]), [10, 10, 60])

    def test_refused_it_changes_nothing(self):
        calls = [begin(), tick(5), subnet(), begin(63), tick(0), subnet()]
        self.assertEqual(ask(calls), [[0], [5], [0], [-2], [5], [-7]])
        self.assertEqual(ask([begin(63), tick(0)]), [[-2], [-1]])


class Tick(unittest.TestCase):
    def test_now_moves_on(self):
        self.assertEqual(ask([begin(), tick(0), tick(5), tick(7), tick(0)]), [[0], [0], [5], [12], [12]])

    def test_up_to_the_end_of_time(self):
        self.assertEqual(ask([begin(), tick(TOP), tick(0), tick(1), tick(0)]), [[0], [TOP], [TOP], [-3], [TOP]])

    def test_beyond_the_end_of_time(self):
        self.assertEqual(ask([begin(), tick(1), tick(TOP), tick(TOP - 1)]), [[0], [1], [-3], [TOP]])


class Subnet(unittest.TestCase):
    def refused(self, refusal, *calls):
        self.assertEqual(last([begin(), subnet(), *calls]), [refusal])

    def test_answers_0(self):
        self.assertEqual(last([begin(), subnet()]), [0])

    def test_of_one_address_and_of_all(self):
        self.assertEqual(last([begin(), subnet(0, 0, 0, 1, 1, 1, 1)]), [0])
        self.assertEqual(last([begin(), subnet(255, 0, MOST_ADDRESS, TOP, TOP, TOP, TOP)]), [0])

    def test_id_there(self):
        self.refused(-7, subnet(1, 30, 39))

    def test_unfit_numbers(self):
        self.refused(-6, subnet(2, 31, 30))
        self.refused(-6, subnet(2, 30, 39, least=0))
        self.refused(-6, subnet(2, 30, 39, least=0, usual=0, most=0))
        self.refused(-6, subnet(2, 30, 39, least=11))
        self.refused(-6, subnet(2, 30, 39, usual=101))
        self.refused(-6, subnet(2, 30, 39, rest=0))

    def test_equal_lengths_are_fit(self):
        self.refused(0, subnet(2, 30, 30, 5, 5, 5, 1))

    def test_addresses_in_common(self):
        for first, end in ((0, 10), (19, 25), (12, 13), (10, 19), (0, 100), (10, 10), (19, 19)):
            self.refused(-10, subnet(2, first, end))

    def test_side_by_side(self):
        self.assertEqual(ask([begin(), subnet(1, 10, 19), subnet(2, 0, 9), subnet(3, 20, 20)]), [[0]] * 4)

    def test_between_others(self):
        self.assertEqual(last([begin(), subnet(1, 10, 19), subnet(2, 30, 39), subnet(3, 20, 29), subnet(4, 29, 29)], 2),
                         [[0], [-10]])

    def test_64_of_them(self):
        calls = [begin()] + [subnet(ident, ident, ident) for ident in range(64)]
        self.assertEqual(ask(calls + [subnet(64, 64, 64)]), [[0]] * 65 + [[-5]])

    def test_order_of_refusals(self):
        full = [begin()] + [subnet(ident, ident, ident) for ident in range(64)]
        self.assertEqual(last(full + [subnet(63, 9, 8)]), [-7])
        self.assertEqual(last(full + [subnet(64, 9, 8)]), [-5])
        self.assertEqual(last(full + [subnet(64, 9, 9)]), [-5])
        self.refused(-7, subnet(1, 10, 19, rest=0))
        self.refused(-6, subnet(2, 19, 10))
        self.refused(-6, subnet(2, 10, 19, least=0))


class Hole(unittest.TestCase):
    def refused(self, refusal, *calls):
        self.assertEqual(last([begin(), subnet(), *calls]), [refusal])

    def test_answers_0(self):
        self.refused(0, hole(1, 12, 14))
        self.refused(0, hole(1, 10, 19))
        self.refused(0, hole(1, 10, 10))
        self.refused(0, hole(1, 19, 19))

    def test_holes_may_meet(self):
        self.refused(0, hole(1, 12, 14), hole(1, 13, 15), hole(1, 12, 14))

    def test_no_subnet(self):
        self.refused(-4, hole(2, 12, 14))

    def test_unfit(self):
        for first, end in ((14, 12), (9, 12), (18, 20), (9, 20), (0, 9), (20, 25), (0, MOST_ADDRESS), (20, 9)):
            self.refused(-6, hole(1, first, end))

    def test_within_another_subnet_is_unfit(self):
        self.refused(-6, subnet(2, 20, 29), hole(2, 12, 14))

    def test_64_of_them_in_each_subnet(self):
        calls = [begin(), subnet(), subnet(2, 20, 29)] + [hole(1, 12, 12)] * 64
        self.assertEqual(ask(calls), [[0]] * 67)
        self.assertEqual(last(calls + [hole(1, 12, 12), hole(2, 22, 22)], 2), [[-5], [0]])

    def test_order_of_refusals(self):
        self.refused(-5, *[hole(1, 12, 12)] * 64, hole(1, 9, 3))
        self.refused(-4, *[hole(1, 12, 12)] * 64, hole(2, 9, 3))


class Reserve(unittest.TestCase):
    def refused(self, refusal, *calls):
        self.assertEqual(last([begin(), subnet(), *calls]), [refusal])

    def test_answers_0(self):
        for address in (10, 15, 19):
            self.refused(0, reserve(address, 7))
        self.refused(0, reserve(10, 0))
        self.refused(0, reserve(10, MOST_CLIENT))

    def test_in_a_hole(self):
        self.refused(0, hole(1, 12, 14), reserve(13, 7))

    def test_in_no_subnet(self):
        for address in (9, 20, 0, MOST_ADDRESS):
            self.refused(-4, reserve(address, 7))

    def test_reserved(self):
        self.refused(-7, reserve(10, 7), reserve(10, 7))
        self.refused(-7, reserve(10, 7), reserve(10, 8))
        self.refused(0, reserve(10, 7), reserve(11, 7))

    def test_1024_of_them(self):
        calls = [begin(), subnet(1, 0, 5000)] + [reserve(address, 7) for address in range(1024)]
        self.assertEqual(last(calls + [reserve(1024, 7)], 2), [[0], [-5]])
        self.assertEqual(last(calls + [reserve(1023, 7)]), [-7])
        self.assertEqual(last(calls + [reserve(5001, 7)]), [-4])
        self.assertEqual(last(calls + [unreserve(3), reserve(1024, 7)]), [0])

    def test_unreserve(self):
        self.refused(0, reserve(10, 7), unreserve(10))
        self.refused(0, reserve(10, 7), unreserve(10), reserve(10, 8))

    def test_unreserve_what_is_not_reserved(self):
        self.refused(-8, unreserve(10))
        self.refused(-8, unreserve(0))
        self.refused(-8, reserve(10, 7), unreserve(11))
        self.refused(-8, reserve(10, 7), unreserve(10), unreserve(10))


class Class(unittest.TestCase):
    def refused(self, refusal, *calls):
        self.assertEqual(last([begin(), *calls]), [refusal])

    def test_answers_0(self):
        for client in (0, 5, MOST_CLIENT):
            for cls in (1, 255):
                self.refused(0, class_of(client, cls))

    def test_already_its_class(self):
        self.refused(-7, class_of(5, 0))
        self.refused(-7, class_of(5, 3), class_of(5, 3))

    def test_changed_and_taken_away(self):
        self.refused(0, class_of(5, 3), class_of(5, 4))
        self.refused(-7, class_of(5, 3), class_of(5, 4), class_of(5, 4))
        self.refused(0, class_of(5, 3), class_of(5, 0))
        self.refused(-7, class_of(5, 3), class_of(5, 0), class_of(5, 0))

    def test_1024_of_them(self):
        calls = [class_of(client, 1) for client in range(1024)]
        self.refused(0, *calls)
        self.refused(-5, *calls, class_of(1024, 1))
        self.refused(-7, *calls, class_of(1024, 0))
        self.refused(-7, *calls, class_of(1023, 1))
        self.refused(0, *calls, class_of(1023, 2))
        self.refused(0, *calls, class_of(1023, 0))
        self.refused(0, *calls, class_of(1023, 0), class_of(1024, 1))


class Limit(unittest.TestCase):
    def refused(self, refusal, *calls):
        self.assertEqual(last([begin(), subnet(), *calls]), [refusal])

    def test_answers_0(self):
        for cls in (0, 1, 255):
            for n in (0, 1, 2 ** 32 - 1):
                self.refused(0, limit(1, cls, n))

    def test_told_again(self):
        self.refused(0, limit(1, 0, 4), limit(1, 0, 4))
        self.refused(0, limit(1, 0, 4), limit(1, 0, 5))

    def test_no_subnet(self):
        self.refused(-4, limit(2, 0, 4))

    def test_1024_of_them(self):
        calls = [subnet(ident, ident * 10, ident * 10) for ident in range(2, 6)]
        calls += [limit(ident, cls, 1) for ident in range(1, 5) for cls in range(256)][:-1] + [limit(5, 9, 1)]
        self.refused(0, *calls)
        self.refused(-5, *calls, limit(5, 0, 1))
        self.refused(-5, *calls, limit(4, 255, 3))
        self.refused(-4, *calls, limit(6, 0, 1))
        self.refused(0, *calls, limit(4, 254, 2))
        self.refused(0, *calls, limit(5, 9, 7))


class Option(unittest.TestCase):
    def refused(self, refusal, *calls):
        self.assertEqual(last([begin(), *calls]), [refusal])

    def test_answers_0(self):
        self.refused(0, option(0, 0, 0))
        self.refused(0, option(1, 255, 255, [0, 255]))
        self.refused(0, option(2, 0, 3, [1] * 64))
        self.refused(0, option(3, MOST_CLIENT, 3, [1]))

    def test_who_does_not_fit_the_scope(self):
        self.refused(-6, option(0, 1, 3))
        self.refused(-6, option(0, MOST_CLIENT, 3))
        for scope in (1, 2):
            self.refused(0, option(scope, 255, 3))
            self.refused(-6, option(scope, 256, 3))
        self.refused(0, option(3, 256, 3))

    def test_told_again(self):
        self.refused(0, option(0, 0, 3, [1]), option(0, 0, 3, [1, 2]))

    def test_unoption(self):
        self.refused(0, option(0, 0, 3, [1]), unoption(0, 0, 3))
        self.refused(-8, option(0, 0, 3, [1]), unoption(0, 0, 3), unoption(0, 0, 3))

    def test_unoption_of_another(self):
        for call in (unoption(1, 7, 3), unoption(2, 8, 3), unoption(2, 7, 4), unoption(0, 1, 3), unoption(1, 256, 3)):
            self.refused(-8, option(2, 7, 3, [1]), call)

    def test_1024_of_them(self):
        calls = [option(3, who, code) for who in range(4) for code in range(256)][:-1] + [option(2, 200, 9)]
        self.refused(0, *calls)
        self.refused(-5, *calls, option(3, 4, 0))
        self.refused(-5, *calls, option(3, 3, 255))
        self.refused(-5, *calls, option(0, 0, 0))
        self.refused(-6, *calls, option(0, 4, 0))
        self.refused(0, *calls, option(3, 3, 254, [1]))
        self.refused(0, *calls, option(2, 200, 9, [1]))
        self.refused(0, *calls, unoption(3, 3, 254), option(0, 0, 0))


if __name__ == "__main__":
    unittest.main()
