"""The calls that lend addresses: places 10 to 12."""

from lentstretch.bounds import MOST_OFFERS, MOST_TIME
from lentstretch.choosing import choose, is_free
from lentstretch.keeping import class_of, is_full, is_live, is_within, may_go, standing_lease, subnet_around
from lentstretch.refusals import CLASS_FULL, LEASE_HINDERS, NO_ADDRESS, NO_SUBNET, NOT_FREE, NOT_THERE, TOO_MANY
from lentstretch.rows import LEASE
from lentstretch.state import Offer, stands, time_from_now, write


def lease_length(subnet, wanted):
    if wanted == 0:
        return subnet.usual
    return min(max(wanted, subnet.least), subnet.most)


def is_class_full(server, subnet, client):
    return is_full(server.kept, subnet, class_of(server.kept, client), server.now)


# The offers that stand, without those to the client of the subnet's addresses: a new offer takes their place.
def other_offers(server, subnet, client):
    found = {}
    for address, offer in server.offers.items():
        is_own = offer.client == client and is_within(subnet, address)
        if stands(server, offer) and not is_own:
            found[address] = offer
    return found


def offer_new(server, subnet, client, wanted, length):
    if is_class_full(server, subnet, client):
        return [CLASS_FULL]
    offers = other_offers(server, subnet, client)
    if len(offers) >= MOST_OFFERS:
        return [TOO_MANY]
    address = choose(server, subnet, client, wanted)
    if address is None:
        return [NO_ADDRESS]
    till = time_from_now(server, server.hold)
    offers[address] = Offer(client, till)
    server.offers = offers
    return [address, lease_length(subnet, length), till]


def discover(server, subnet_id, client, wanted, length):
    subnet = server.kept.subnets.get(subnet_id)
    if subnet is None:
        return [NO_SUBNET]
    record = standing_lease(server.kept, subnet, client, server.now)
    if record is None:
        return offer_new(server, subnet, client, wanted, length)
    if not may_go(server.kept, subnet, record.address, client):
        return [LEASE_HINDERS]
    return [record.address, lease_length(subnet, length), 0]


def write_lease(server, address, client, number, end):
    refusal = write(server, LEASE, [address, client, number, end], [])
    if refusal != 0:
        return [refusal]
    return [number, end]


def judge_new_lease(server, subnet, client, address):
    offer = server.offers.get(address)
    if offer is None or offer.client != client or not stands(server, offer):
        return NOT_THERE
    if not is_free(server, subnet, address, client):
        return NOT_FREE
    if is_class_full(server, subnet, client):
        return CLASS_FULL
    if server.kept.count == MOST_TIME:
        return TOO_MANY
    return 0


def lend_new(server, subnet, client, address, length):
    refusal = judge_new_lease(server, subnet, client, address)
    if refusal != 0:
        return [refusal]
    end = time_from_now(server, lease_length(subnet, length))
    answer = write_lease(server, address, client, server.kept.count + 1, end)
    if answer[0] > 0:
        server.offers.pop(address)
    return answer


def request(server, client, address, length):
    subnet = subnet_around(server.kept, address)
    if subnet is None:
        return [NO_SUBNET]
    record = standing_lease(server.kept, subnet, client, server.now)
    if record is None:
        return lend_new(server, subnet, client, address, length)
    if record.address != address:
        return [LEASE_HINDERS]
    return renew(server, client, address, record.number, length)


def is_live_lease(server, client, address, number):
    record = server.kept.records.get(address)
    if record is None or not is_live(record, server.now):
        return False
    return record.client == client and record.number == number


def renew(server, client, address, number, length):
    if not is_live_lease(server, client, address, number):
        return [NOT_THERE]
    subnet = subnet_around(server.kept, address)
    if not may_go(server.kept, subnet, address, client):
        return [NOT_FREE]
    end = time_from_now(server, lease_length(subnet, length))
    return write_lease(server, address, client, number, max(server.kept.records[address].end, end))


def lend(server, place, numbers):
    if place == 10:
        return discover(server, numbers[0], numbers[1], numbers[2], numbers[3])
    if place == 11:
        return request(server, numbers[0], numbers[1], numbers[2])
    return renew(server, numbers[0], numbers[1], numbers[2], numbers[3])
