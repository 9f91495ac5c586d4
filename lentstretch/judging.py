"""Why a row of the kinds 1 to 8 does not apply to what is kept: a refusal, or 0 if it does apply.

The numbers are those of the row behind its time. A call's are in their ranges already; a row's that was read from
bytes may be as great as its bytes allow.
"""

from lentstretch.bounds import MOST_CLASSES, MOST_HOLES, MOST_LIMITS, MOST_OPTIONS, MOST_RESERVATIONS, MOST_SUBNETS
from lentstretch.bounds import MOST_TIME, MOST_VALUE_BYTES
from lentstretch.keeping import class_of, is_within, subnet_around
from lentstretch.refusals import NO_SUBNET, NOT_FREE, NOT_THERE, THERE_ALREADY, TOO_MANY, UNFIT
from lentstretch.rows import CLASS, HOLE, LIMIT, OPTION, RESERVATION, RESERVATION_GONE, SUBNET


def are_subnet_numbers_fit(first, last, least, usual, most, rest):
    return first <= last and 1 <= least <= usual <= most <= MOST_TIME and 1 <= rest <= MOST_TIME


def is_any_shared(kept, first, last):
    for subnet in kept.subnets.values():
        if first <= subnet.last and subnet.first <= last:
            return True
    return False


def judge_subnet(kept, numbers):
    if numbers[0] in kept.subnets:
        return THERE_ALREADY
    if len(kept.subnets) >= MOST_SUBNETS:
        return TOO_MANY
    if not are_subnet_numbers_fit(numbers[1], numbers[2], numbers[3], numbers[4], numbers[5], numbers[6]):
        return UNFIT
    if is_any_shared(kept, numbers[1], numbers[2]):
        return NOT_FREE
    return 0


def judge_hole(kept, subnet_id, first, last):
    subnet = kept.subnets.get(subnet_id)
    if subnet is None:
        return NO_SUBNET
    if len(subnet.holes) >= MOST_HOLES:
        return TOO_MANY
    if last < first or not is_within(subnet, first) or not is_within(subnet, last):
        return UNFIT
    return 0


def judge_reservation(kept, address):
    if subnet_around(kept, address) is None:
        return NO_SUBNET
    if address in kept.reserved:
        return THERE_ALREADY
    if len(kept.reserved) >= MOST_RESERVATIONS:
        return TOO_MANY
    return 0


def judge_reservation_gone(kept, address):
    if address not in kept.reserved:
        return NOT_THERE
    return 0


def judge_class(kept, client, class_number):
    if class_of(kept, client) == class_number:
        return THERE_ALREADY
    if class_number != 0 and class_of(kept, client) == 0 and len(kept.classes) >= MOST_CLASSES:
        return TOO_MANY
    return 0


def judge_limit(kept, subnet_id, class_number):
    if subnet_id not in kept.subnets:
        return NO_SUBNET
    if (subnet_id, class_number) not in kept.limits and len(kept.limits) >= MOST_LIMITS:
        return TOO_MANY
    return 0


def is_scope_fit(scope, who):
    if scope == 0:
        return who == 0
    if scope in (1, 2):
        return who <= 255
    return scope == 3


def judge_option(kept, scope, who, code, value):
    if not is_scope_fit(scope, who) or len(value) > MOST_VALUE_BYTES:
        return UNFIT
    if (scope, who, code) not in kept.options and len(kept.options) >= MOST_OPTIONS:
        return TOO_MANY
    return 0


def judge_option_gone(kept, scope, who, code):
    if (scope, who, code) not in kept.options:
        return NOT_THERE
    return 0


def judge(kept, kind, numbers, value):
    if kind == SUBNET:
        return judge_subnet(kept, numbers)
    if kind == HOLE:
        return judge_hole(kept, numbers[0], numbers[1], numbers[2])
    if kind == RESERVATION:
        return judge_reservation(kept, numbers[0])
    if kind == RESERVATION_GONE:
        return judge_reservation_gone(kept, numbers[0])
    if kind == CLASS:
        return judge_class(kept, numbers[0], numbers[1])
    if kind == LIMIT:
        return judge_limit(kept, numbers[0], numbers[1])
    if kind == OPTION:
        return judge_option(kept, numbers[0], numbers[1], numbers[2], value)
    return judge_option_gone(kept, numbers[0], numbers[1], numbers[2])
