"""A row of things with sizes, of which all but a few have the common one."""

from gridscope.errors import BadMany, BadSize, Full, NoIndex, NoPoint

COMMON = 1
GREATEST_SIZE = 60
MOST_THINGS = 1000000
MOST_ODD = 60
MOST_PUT = 1000


def check_size(size):
    """Refuse what is no size."""
    if size < 1 or size > GREATEST_SIZE:
        raise BadSize(f"{size} is no size from 1 to {GREATEST_SIZE}")


def check_number(number, count):
    """Refuse a number that isn't one of so many from 0 on."""
    if number < 0 or number >= count:
        raise NoIndex(f"{number} is no number below {count}")


class Sizes:
    """So many things, numbered from 0, each with a size, some hidden."""

    def __init__(self, many, *, common=COMMON):
        if many < 1 or many > MOST_THINGS:
            raise BadMany(f"{many} is no count from 1 to {MOST_THINGS}")
        check_size(common)
        self.many = many
        self.common = common
        # Number to (own size, hidden). Only things that differ from a plain one stand here:
        # so a million things cost no more than a few, and equal rows have equal dicts.
        self.odd = {}

    def __eq__(self, other):
        return (isinstance(other, Sizes) and self.many == other.many
                and self.common == other.common and self.odd == other.odd)

    def __repr__(self):
        return f"Sizes {self.many} {self.common}"

    def state(self, number):
        """The pair (own size, hidden) of a thing."""
        check_number(number, self.many)
        return self.odd.get(number, (self.common, False))

    def size(self, number):
        """What a thing counts."""
        own, hidden = self.state(number)
        return 0 if hidden else own

    def own(self, number):
        """The size of a thing, also of a hidden one."""
        return self.state(number)[0]

    def hidden(self, number):
        """True where a thing is hidden."""
        return self.state(number)[1]

    def ahead(self, number):
        """The sum of all counted sizes of lesser numbers."""
        check_number(number, self.many + 1)
        more = sum([self.size(each) - self.common for each in self.odd if each < number])
        return number * self.common + more

    def total(self):
        """The sum of all counted sizes."""
        return self.ahead(self.many)

    def reach(self, first, many):
        """The pair (sum ahead, sum of counted sizes) of so many things from a number on."""
        begin = self.ahead(first)
        return (begin, self.ahead(first + many) - begin)

    def at(self, point):
        """The pair (number, within) of the thing in which a point lies."""
        if point < 0 or point >= self.total():
            raise NoPoint(f"{point} is no point below {self.total()}")
        first = 0
        left = point
        for number in sorted(self.odd):
            plain = (number - first) * self.common
            if left < plain:
                break
            left -= plain
            counted = self.size(number)
            if left < counted:
                return (number, left)
            left -= counted
            first = number + 1
        return (first + left // self.common, left % self.common)

    def exceptions(self):
        """Rising triples (number, own size, hidden) of all that are set or hidden."""
        return [(number, self.own(number), self.hidden(number)) for number in sorted(self.odd)]

    def keep(self, number, own, hidden):
        """Let a thing have this size and be hidden or not."""
        if own == self.common and not hidden:
            self.odd.pop(number, None)
            return
        if number not in self.odd and len(self.odd) >= MOST_ODD:
            raise Full(f"{MOST_ODD} things are set or hidden")
        self.odd[number] = (own, hidden)

    def give(self, number, size):
        """Set the size of a thing."""
        hidden = self.hidden(number)
        check_size(size)
        self.keep(number, size, hidden)

    def plain(self, number):
        """Let a thing have the common size again."""
        self.keep(number, self.common, self.hidden(number))

    def hide(self, number):
        """Hide a thing."""
        self.keep(number, self.own(number), True)

    def show(self, number):
        """Hide a thing no more."""
        self.keep(number, self.own(number), False)

    def put(self, number, many):
        """Put so many plain things in at a number."""
        check_number(number, self.many + 1)
        if many < 1 or many > MOST_PUT:
            raise BadMany(f"{many} is no count from 1 to {MOST_PUT}")
        moved = {}
        for old in self.odd:
            moved[old if old < number else old + many] = self.odd[old]
        self.odd = moved
        self.many += many

    def cut(self, number, many):
        """Cut so many things out from a number on."""
        check_number(number, self.many)
        behind = number + many
        if many < 1 or behind > self.many or many == self.many:
            raise BadMany(f"{many} things can't be cut out at {number} of {self.many}")
        moved = {}
        for old in self.odd:
            if old < number:
                moved[old] = self.odd[old]
            elif old >= behind:
                moved[old - many] = self.odd[old]
        self.odd = moved
        self.many -= many

    def twin(self):
        """Another row like this one, on its own from now on."""
        other = Sizes(1, common=self.common)
        # Set afterwards: by putting in there may be more things than a new row takes.
        other.many = self.many
        other.odd = dict(self.odd)
        return other
