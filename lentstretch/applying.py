"""What a row changes in what is kept. That the row applies has been judged before."""

from lentstretch.keeping import GIVEN_BACK, LENT, RESTING, Record, Subnet
from lentstretch.rows import CLASS, HOLE, LEASE, LIMIT, OPTION, OPTION_GONE, RECORD, RELEASE, RESERVATION
from lentstretch.rows import RESERVATION_GONE, REST, SUBNET


def apply_subnet(kept, numbers):
    subnet = Subnet(numbers[0], numbers[1], numbers[2], numbers[3], numbers[4], numbers[5], numbers[6])
    kept.subnets[subnet.ident] = subnet


def apply_class(kept, client, class_number):
    if class_number == 0:
        kept.classes.pop(client)
    else:
        kept.classes[client] = class_number


# The kinds 1 to 8.
def apply_setting(kept, kind, numbers, value):
    if kind == SUBNET:
        apply_subnet(kept, numbers)
    elif kind == HOLE:
        kept.subnets[numbers[0]].holes.append((numbers[1], numbers[2]))
    elif kind == RESERVATION:
        kept.reserved[numbers[0]] = numbers[1]
    elif kind == RESERVATION_GONE:
        kept.reserved.pop(numbers[0])
    elif kind == CLASS:
        apply_class(kept, numbers[0], numbers[1])
    elif kind == LIMIT:
        kept.limits[(numbers[0], numbers[1])] = numbers[2]
    elif kind == OPTION:
        kept.options[(numbers[0], numbers[1], numbers[2])] = list(value)
    elif kind == OPTION_GONE:
        kept.options.pop((numbers[0], numbers[1], numbers[2]))


# A renewal has a number that count has reached long ago, so one way of writing serves it, a new lease and a record
# that is told whole.
def put_record(kept, address, client, number, end, record_kind):
    kept.records[address] = Record(address, client, number, end, record_kind)
    kept.count = max(kept.count, number)


def change_record(kept, address, end, record_kind):
    record = kept.records[address]
    record.end = end
    record.kind = record_kind


# The kinds 9 to 13.
def apply_lending(kept, kind, at, numbers):
    if kind == LEASE:
        put_record(kept, numbers[0], numbers[1], numbers[2], numbers[3], LENT)
    elif kind == RELEASE:
        change_record(kept, numbers[0], at, GIVEN_BACK)
    elif kind == REST:
        change_record(kept, numbers[0], numbers[2], RESTING)
    elif kind == RECORD:
        put_record(kept, numbers[0], numbers[1], numbers[2], numbers[3], numbers[4])
    else:
        kept.count = numbers[0]


def apply_row(kept, kind, at, numbers, value):
    kept.latest = at
    if kind < LEASE:
        apply_setting(kept, kind, numbers, value)
    else:
        apply_lending(kept, kind, at, numbers)
