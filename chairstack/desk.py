"""A desk: works on a hall by rows of text."""

from chairstack.errors import ChairError, InvalidRow, RowFailed
from chairstack.forms import row_values
from chairstack.queries import next_trial
from chairstack.verdicts import verdict

DONE = "ok"


def _add_make(hall, name, height=1):
    hall.add_make(name, height=height)
    return DONE


def _note_sits(hall, upper, lower):
    number = hall.note("sits", upper, lower)
    return f"trial {number}"


def _note_refuses(hall, upper, lower):
    number = hall.note("refuses", upper, lower)
    return f"trial {number}"


def _note_stack(hall, *stack):
    numbers = hall.saw(*stack)
    return _spaced(["trials", *numbers])


def _retract(hall, number):
    hall.retract(number)
    return DONE


def _ask(hall, upper, lower):
    return verdict(hall.record(), upper, lower)


def _tell_next(hall):
    pair = next_trial(hall.record())
    return "settled" if pair is None else _spaced(pair)


def _bring(hall, make, count):
    hall.bring((make, count))
    return DONE


def _scrap(hall, make, count):
    hall.scrap(make, count)
    return DONE


def _lend(hall, borrower, make, count):
    number = hall.lend(borrower, make, count)
    return f"loan {number}"


def _give_back(hall, number, count=None):
    hall.give_back(number, count)
    return DONE


def _change_limit(hall, value):
    hall.change_limit(value)
    return DONE


def _tell_counts(hall, make):
    return _spaced(hall.counts(make))


def _tell_fewest(hall):
    return str(hall.fewest())


def _tell_tallest(hall):
    height, _ = hall.tallest()
    return str(height)


def _undo(hall):
    hall.undo()
    return DONE


def _redo(hall):
    hall.redo()
    return DONE


def _spaced(parts):
    return " ".join([str(part) for part in parts])


ANSWERS = {
    "make": _add_make,
    "sits": _note_sits,
    "refuses": _note_refuses,
    "saw": _note_stack,
    "retract": _retract,
    "ask": _ask,
    "next": _tell_next,
    "bring": _bring,
    "scrap": _scrap,
    "lend": _lend,
    "back": _give_back,
    "limit": _change_limit,
    "count": _tell_counts,
    "fewest": _tell_fewest,
    "tall": _tell_tallest,
    "undo": _undo,
    "redo": _redo,
}


class Desk:
    """Carries out rows in one hall, which others may use as well."""

    def __init__(self, hall):
        self._hall = hall
        self._rows_run = 0

    @property
    def rows_run(self):
        return self._rows_run

    def run(self, row):
        """Carry out one row and return the reply."""
        values = row_values(row)
        if values is None:
            raise InvalidRow(row)
        word, *rest = values
        answer = ANSWERS[word]
        reply = answer(self._hall, *rest)
        self._rows_run += 1
        return reply

    def __call__(self, row):
        return self.run(row)

    def run_all(self, rows):
        """Carry out all rows and return the replies; if one of them fails, none was carried out."""
        hall_before = self._hall.copy()
        run_before = self._rows_run
        replies = []
        for index, row in enumerate(rows):
            try:
                replies.append(self.run(row))
            except ChairError as error:
                self._hall.become(hall_before)
                self._rows_run = run_before
                raise RowFailed(index) from error
        return replies
