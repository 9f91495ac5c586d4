"""What a row changes in what is kept. That the row applies has been judged before."""

from lentstretch.keeping import LENT, Record, Subnet
from lentstretch.rows import CLASS, HOLE, LEASE, LIMIT, OPTION, OPTION_GONE, RESERVATION, RESERVATION_GONE, SUBNET


def apply_subnet(kept, numbers):
    subnet = Subnet(numbers[0], numbers[1], numbers[2], numbers[3], numbers[4], numbers[5], numbers[6])
    kept.subnets[subnet.ident] = subnet


def apply_class(kept, client, class_number):
    if class_number == 0:
        kept.classes.pop(client)
    else:
        kept.classes[client] = class_number


# A renewal has a number that count has reached long ago, so one way of writing serves it and a new lease alike.
def apply_lease(kept, address, client, number, end):
    kept.records[address] = Record(address, client, number, end, LENT)
    kept.count = max(kept.count, number)


def apply_row(kept, kind, at, numbers, value):
    kept.latest = at
    if kind == SUBNET:
        apply_subnet(kept, numbers)
    elif kind == HOLE:
        kept.subnets[numbers[0]].holes.append((numbers[1], numbers[2]))
    elif kind == RESERVATION:
        kept.reserved[numbers[0]] = numbers[1]
    elif kind == RESERVATION_GONE:
        kept.reserved.pop(numbers[0])
    elif kind == CLASS:
        apply_class(kept, numbers[0], numbers[1])
    elif kind == LIMIT:
        kept.limits[(numbers[0], numbers[1])] = numbers[2]
    elif kind == OPTION:
        kept.options[(numbers[0], numbers[1], numbers[2])] = list(value)
    elif kind == OPTION_GONE:
        kept.options.pop((numbers[0], numbers[1], numbers[2]))
    elif kind == LEASE:
        apply_lease(kept, numbers[0], numbers[1], numbers[2], numbers[3])
