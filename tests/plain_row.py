"""A row of sizes kept thing by thing, and what a row of sizes tells in all."""


class PlainRow:
    """The points [2] and [3] done the slow way: a list of pairs [own size, hidden]."""

    def __init__(self, many, common):
        self.common = common
        self.things = [[common, False] for _ in range(many)]

    def counted(self, number):
        own, hidden = self.things[number]
        return 0 if hidden else own

    def points(self):
        """The pair (number, within) of every point."""
        return [(number, within) for number in range(len(self.things)) for within in range(self.counted(number))]

    def exceptions(self):
        return [(number, own, hidden) for number, (own, hidden) in enumerate(self.things)
                if own != self.common or hidden]

    def told(self):
        """What `told` below must tell of a row of sizes like this one."""
        numbers = range(len(self.things))
        counted = [self.counted(number) for number in numbers]
        return {
            "many": len(self.things),
            "common": self.common,
            "size": counted,
            "own": [self.things[number][0] for number in numbers],
            "hidden": [self.things[number][1] for number in numbers],
            "ahead": [sum(counted[:number]) for number in range(len(self.things) + 1)],
            "total": sum(counted),
            "exceptions": self.exceptions(),
        }

    def refusal(self, deed):
        """The name of the refusal that is due, or None."""
        word, number, *rest = deed
        many = len(self.things)
        if number < 0 or number >= many + (word == "put"):
            return "NoIndex"
        if word == "give" and not 1 <= rest[0] <= 60:
            return "BadSize"
        if word == "put" and not 1 <= rest[0] <= 1000:
            return "BadMany"
        if word == "cut" and (rest[0] < 1 or number + rest[0] > many or rest[0] == many):
            return "BadMany"
        changes = word == "hide" or word == "give" and rest[0] != self.common
        odd = [number for number, own, hidden in self.exceptions()]
        if changes and number not in odd and len(odd) >= 60:
            return "Full"
        return None

    def do(self, deed):
        """Do a deed; tell the name of its refusal, or None."""
        refused = self.refusal(deed)
        if refused is not None:
            return refused
        word, number, *rest = deed
        if word == "give":
            self.things[number][0] = rest[0]
        elif word == "plain":
            self.things[number][0] = self.common
        elif word == "hide":
            self.things[number][1] = True
        elif word == "show":
            self.things[number][1] = False
        elif word == "put":
            self.things[number:number] = [[self.common, False] for _ in range(rest[0])]
        else:
            del self.things[number:number + rest[0]]
        return None


def told(row):
    """All that a row of sizes tells of its things."""
    return {
        "many": row.many,
        "common": row.common,
        "size": [row.size(number) for number in range(row.many)],
        "own": [row.own(number) for number in range(row.many)],
        "hidden": [row.hidden(number) for number in range(row.many)],
        "ahead": [row.ahead(number) for number in range(row.many + 1)],
        "total": row.total(),
        "exceptions": row.exceptions(),
    }


def do(row, deed):
    """Do a deed to a row of sizes; tell the name of its refusal's class, or what it told."""
    word, *rest = deed
    try:
        return getattr(row, word)(*rest)
    except (ValueError, LookupError) as refused:
        return type(refused).__name__
