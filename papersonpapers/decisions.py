"""The calls decide and review: what was decided, and what of it must be looked at again."""

from papersonpapers.calls import DECIDE
from papersonpapers.known import known_at
from papersonpapers.limits import MOST_DECISIONS, is_day, is_number
from papersonpapers.records import Decision
from papersonpapers.refusals import ACCEPTED, FULL, OUT_OF_RANGE
from papersonpapers.standing import is_standing, ranks_under


def answer_decision(house, call):
    if call.number == DECIDE:
        return decide(house, call.numbers[0], call.numbers[1])
    return review(house)


def decide(house, paper, day):
    if not (is_number(paper) and is_day(day)):
        return [OUT_OF_RANGE]
    if len(house.decisions) == MOST_DECISIONS:
        return [FULL]
    stood = is_standing(known_at(house, house.today), (paper, day))
    number = len(house.decisions) + 1
    house.decisions.append(Decision(number, paper, day, stood, house.today))
    return [ACCEPTED, number, 1 if stood else 0]


def review(house):
    first_days = days_of_change(house)
    standing = ranks_under(known_at(house, house.today), pairs_of(house.decisions))
    row = [ACCEPTED]
    for decision in house.decisions:
        if decision.number in first_days:
            stands = (decision.paper, decision.day) in standing
            row.extend([decision.number, first_days[decision.number], 1 if stands else 0])
    return row


# Gives back, by its number, for each decision that ever became another one the first day of that.
def days_of_change(house):
    first_days = {}
    for day in days_heard(house):
        unchanged = [one for one in house.decisions if one.made < day and one.number not in first_days]
        for decision in changed_as_known_at(house, unchanged, day):
            first_days[decision.number] = day
    return first_days


# What is known changes on these days alone, so no decision can become another one on any other day.
def days_heard(house):
    days = [paper.heard for paper in house.papers.values()]
    for revocation in house.revocations.values():
        days.append(revocation.heard)
        if revocation.taken_back is not None:
            days.append(revocation.taken_back)
    return sorted(set(days))


def changed_as_known_at(house, decisions, day):
    standing = ranks_under(known_at(house, day), pairs_of(decisions))
    return [one for one in decisions if ((one.paper, one.day) in standing) != one.stood]


def pairs_of(decisions):
    return [(decision.paper, decision.day) for decision in decisions]
