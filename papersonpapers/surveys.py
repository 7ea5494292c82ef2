"""The calls that look over many papers or many days: all_that_stand, spans, moved."""

from papersonpapers.calls import ALL_THAT_STAND, SPANS
from papersonpapers.known import known_at
from papersonpapers.limits import is_number
from papersonpapers.refusals import ACCEPTED, OUT_OF_RANGE, refusal_of_days, refusal_of_known_day
from papersonpapers.rows import flat
from papersonpapers.standing import standing_on
from papersonpapers.stretches import stretches_of


def answer_survey(house, call):
    numbers = call.numbers
    if call.number == ALL_THAT_STAND:
        return all_that_stand(house, numbers[0], numbers[1])
    if call.number == SPANS:
        return spans(house, numbers[0], numbers[1])
    return moved(house, numbers[0], numbers[1], numbers[2])


def all_that_stand(house, day, known_day):
    refusal = refusal_of_days(house, day, known_day)
    if refusal != ACCEPTED:
        return [refusal]
    return [ACCEPTED] + standing_on(known_at(house, known_day), day)


def spans(house, number, known_day):
    if not is_number(number):
        return [OUT_OF_RANGE]
    refusal = refusal_of_known_day(house, known_day)
    if refusal != ACCEPTED:
        return [refusal]
    return [ACCEPTED] + flat(stretches_of(known_at(house, known_day), number))


def moved(house, day, known_day, other_known_day):
    refusal = refusal_of_days(house, day, known_day)
    if refusal != ACCEPTED:
        return [refusal]
    refusal = refusal_of_known_day(house, other_known_day)
    if refusal != ACCEPTED:
        return [refusal]
    one = standing_on(known_at(house, known_day), day)
    other = standing_on(known_at(house, other_known_day), day)
    return [ACCEPTED] + [number for number in house.papers if (number in one) != (number in other)]
