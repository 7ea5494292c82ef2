"""The calls by which a house is told something: day, paper, revoke, back."""

from papersonpapers.calls import DAY, PAPER, REVOKE
from papersonpapers.grounds import read_grounds
from papersonpapers.limits import MOST_PAPERS, MOST_REVOCATIONS, is_day, is_number
from papersonpapers.records import Paper, Revocation
from papersonpapers.refusals import ACCEPTED, FULL, GONE_BY, NONE_SUCH, OUT_OF_RANGE, TOLD_ALREADY, WRONG_LIST


def answer_telling(house, call):
    numbers = call.numbers
    if call.number == DAY:
        return tell_day(house, numbers[0])
    if call.number == PAPER:
        return tell_paper(house, numbers[0], numbers[1], numbers[2], call.row)
    if call.number == REVOKE:
        return tell_revocation(house, numbers[0], numbers[1], numbers[2])
    return take_back(house, numbers[0])


def decided_today(house):
    return any([decision.made == house.today for decision in house.decisions])


def tell_day(house, day):
    if not is_day(day):
        return [OUT_OF_RANGE]
    if day < house.today:
        return [GONE_BY]
    house.today = day
    return [ACCEPTED]


def tell_paper(house, number, first, last, row):
    if not (is_number(number) and is_day(first) and is_day(last)):
        return [OUT_OF_RANGE]
    if decided_today(house):
        return [GONE_BY]
    grounds = read_grounds(row)
    if grounds is None:
        return [WRONG_LIST]
    if number in house.papers:
        return [TOLD_ALREADY]
    if len(house.papers) == MOST_PAPERS:
        return [FULL]
    house.papers[number] = Paper(number, first, last, grounds, house.today)
    return [ACCEPTED, len(house.papers)]


def tell_revocation(house, number, paper, since):
    if not (is_number(number) and is_number(paper) and is_day(since)):
        return [OUT_OF_RANGE]
    if decided_today(house):
        return [GONE_BY]
    if number in house.revocations:
        return [TOLD_ALREADY]
    if len(house.revocations) == MOST_REVOCATIONS:
        return [FULL]
    house.revocations[number] = Revocation(number, paper, since, house.today)
    return [ACCEPTED, len(house.revocations)]


def take_back(house, number):
    if not is_number(number):
        return [OUT_OF_RANGE]
    if decided_today(house):
        return [GONE_BY]
    if number not in house.revocations:
        return [NONE_SUCH]
    revocation = house.revocations[number]
    if revocation.taken_back is not None:
        return [TOLD_ALREADY]
    revocation.taken_back = house.today
    return [ACCEPTED]
