"""Whether a row that was read from bytes applies to what is kept, judged at the row's own time."""

from lentstretch.bounds import MOST_TIME
from lentstretch.judging import judge
from lentstretch.keeping import GIVEN_BACK, LENT, RESTING, is_live, is_over, standing_lease, subnet_around
from lentstretch.rows import LEASE, RECORD, RELEASE, REST


def has_no_live_lease(kept, address, client, time):
    return standing_lease(kept, subnet_around(kept, address), client, time) is None


def does_renewal_fit(record, client, number, end):
    return record.client == client and record.number == number and record.end <= end


def does_lease_fit(kept, at, address, client, number, end):
    if subnet_around(kept, address) is None or not at < end <= MOST_TIME:
        return False
    record = kept.records.get(address)
    if record is not None and is_live(record, at):
        return does_renewal_fit(record, client, number, end)
    if record is not None and not is_over(record, at):
        return False
    if number != kept.count + 1 or number > MOST_TIME:
        return False
    return has_no_live_lease(kept, address, client, at)


def is_lease_live(kept, at, address, number):
    record = kept.records.get(address)
    return record is not None and is_live(record, at) and record.number == number


def does_rest_fit(kept, at, address, number, end):
    return is_lease_live(kept, at, address, number) and at < end <= MOST_TIME


# Count is never less than a record's number, so beyond it there is nothing to look for.
def is_number_new(kept, number):
    if number > kept.count:
        return True
    return not any([record.number == number for record in kept.records.values()])


def is_record_end_fit(at, end, record_kind):
    if record_kind == GIVEN_BACK:
        return end <= at
    return end <= MOST_TIME


def does_record_fit(kept, at, address, client, number, end, record_kind):
    if subnet_around(kept, address) is None or address in kept.records:
        return False
    if not 1 <= number <= MOST_TIME or not is_number_new(kept, number):
        return False
    if record_kind > RESTING or not is_record_end_fit(at, end, record_kind):
        return False
    if record_kind == LENT and at < end:
        return has_no_live_lease(kept, address, client, at)
    return True


def does_row_apply(kept, row):
    numbers = row.numbers
    if not kept.latest <= row.at <= MOST_TIME:
        return False
    if row.kind < LEASE:
        return judge(kept, row.kind, numbers, row.value) == 0
    if row.kind == LEASE:
        return does_lease_fit(kept, row.at, numbers[0], numbers[1], numbers[2], numbers[3])
    if row.kind == RELEASE:
        return is_lease_live(kept, row.at, numbers[0], numbers[1])
    if row.kind == REST:
        return does_rest_fit(kept, row.at, numbers[0], numbers[1], numbers[2])
    if row.kind == RECORD:
        return does_record_fit(kept, row.at, numbers[0], numbers[1], numbers[2], numbers[3], numbers[4])
    return kept.count <= numbers[0] <= MOST_TIME
