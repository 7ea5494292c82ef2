"""What a house keeps: papers and revocations, each with the day on which it was heard, and decisions."""


class Paper:
    def __init__(self, number, first, last, grounds, heard):
        self.number = number
        self.first = first
        self.last = last
        # Each ground is a list of rests; a rest is a tuple: a paper's number, and 0 or 1 as it was told.
        self.grounds = grounds
        self.heard = heard


class Revocation:
    def __init__(self, number, paper, since, heard):
        self.number = number
        self.paper = paper
        self.since = since
        self.heard = heard
        # The day is kept, not a mere yes: as known before that day the revocation still counts.
        self.taken_back = None


class Decision:
    def __init__(self, number, paper, day, stood, made):
        self.number = number
        self.paper = paper
        self.day = day
        self.stood = stood
        # The day that was today then, as known at which it was decided.
        self.made = made


class House:
    def __init__(self):
        self.today = 0
        # Dicts keep the order of telling, in which answers name what was told.
        self.papers = {}
        self.revocations = {}
        self.decisions = []
