"""The stretches of days on which a paper stands."""

from papersonpapers.standing import ranks_under


# Between two of these days nothing begins or ends that has a say in whether something stands,
# so the first day of each part tells of all its days.
def turning_days(known):
    days = [revocation.since for revocation in known.revocations]
    for paper in known.papers.values():
        days.extend([paper.first, paper.last + 1])
    return sorted(set(days))


# Gives back the stretches, first and last day each, in order.
def stretches_of(known, number):
    days = turning_days(known)
    ranks = ranks_under(known, [(number, day) for day in days])
    stretches = []
    for day, behind in zip(days, days[1:]):
        if (number, day) in ranks:
            stretches = with_stretch(stretches, day, behind - 1)
    return stretches


def with_stretch(stretches, first, last):
    if len(stretches) > 0 and stretches[-1][1] == first - 1:
        return stretches[:-1] + [(stretches[-1][0], last)]
    return stretches + [(first, last)]
