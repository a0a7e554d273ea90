"""Tables: lines of text for what a record and a hall tell."""

from chairstack.bounds import barred_rows, least_rows, place_verdict
from chairstack.queries import gains

SIGNS = {"sits": "+", "refuses": "-", "open": "?"}


def verdict_table(record):
    """A line for each make as the upper one, with a sign for each make as the lower one."""
    rows = least_rows(record)
    barred = barred_rows(record)
    return [f"{make:<12}{_signs(rows, barred, upper)}" for upper, make in enumerate(record.makes)]


def gain_table(record):
    """A line for each open pair, with its two gains."""
    return [
        f"{upper:<12} {lower:<12} {if_sits:>3} {if_refuses:>3}"
        for upper, lower, if_sits, if_refuses in gains(record)
    ]


def loan_table(hall):
    """A line for each loan."""
    return [f"{number:>4} {borrower:<12} {make:<12} {count:>3}" for number, borrower, make, count in hall.loans()]


def _signs(rows, barred, upper):
    words = [place_verdict(rows, barred, upper, lower) for lower in range(len(rows))]
    return "".join([f" {SIGNS[word]}" for word in words])
