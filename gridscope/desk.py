"""A desk: lines are said, and a view answers them."""

from gridscope.refusals import asked
from gridscope.steps import signs_put
from gridscope.reading import read_deed, read_question

DONE = "done"


def numbers_told(numbers):
    """Numbers with blanks between."""
    return " ".join([str(number) for number in numbers])


def tell_done(view, deed):
    """Do a deed."""
    view.do(deed)
    return DONE


def tell_undone(view):
    """Take the last deed back."""
    view.undo()
    return DONE


def tell_redone(view):
    """Do what was taken back last again."""
    view.redo()
    return DONE


def tell_screen(view):
    """The rows of the screen."""
    return str(view)


def tell_hit(view, v, u):
    """The box that a place hits."""
    box = view.hit(v, u)
    return "beyond" if box is None else numbers_told(box)


def tell_places(view, row, column):
    """The stretches that show a cell."""
    stretches = view.places(row, column)
    return "; ".join([numbers_told(stretch) for stretch in stretches]) if stretches else "none"


def tell_caret(view):
    """The caret's cell."""
    return numbers_told(view.caret())


def tell_scroll(view):
    """The scroll."""
    return numbers_told(view.scroll())


def tell_steps(view):
    """How many signs were put for the last deed."""
    return str(signs_put(view.steps()))


QUESTIONS = {
    "undo": tell_undone,
    "redo": tell_redone,
    "screen": tell_screen,
    "hit": tell_hit,
    "places": tell_places,
    "caret": tell_caret,
    "scroll": tell_scroll,
    "steps": tell_steps,
}


def answered(tell, *handed):
    """The answer that a function tells, or that it is refused."""
    told, refused = asked(tell, *handed)
    return told if refused is None else f"refused {refused.lower()}"


class Desk:
    """A view that answers lines."""

    def __init__(self, view):
        self.view = view
        self.said = 0

    def say(self, line):
        """The answer to a line."""
        self.said += 1
        deed = read_deed(line)
        if deed is not None:
            return answered(tell_done, self.view, deed)
        question = read_question(line)
        if question is None:
            return "no line"
        word, *numbers = question
        tell = QUESTIONS[word]
        return answered(tell, self.view, *numbers)
