"""The way in: a list of calls is read, and the list of their answers is given back."""

from trickboard.forms import argument_count, arguments_fit, has_row, row_fits
from trickboard.line import Line, agree, claim, deal, decide, duty, mend, play, table, undo


def do_call(line, number, arguments):
    """Answers a call other than deal; its numbers are in their ranges, and there is a board."""
    if number == 1:
        return play(line, arguments[0], arguments[1])
    if number == 2:
        return decide(line, arguments[0])
    if number == 3:
        return mend(line, arguments[0])
    if number == 4:
        return duty(line, arguments[0], arguments[1])
    if number == 5:
        return claim(line, arguments[0], arguments[1])
    if number == 6:
        return agree(line, arguments[0])
    if number == 7:
        return undo(line, arguments[0])
    return table(line)


def answer_to(line, number, arguments, row):
    if not arguments_fit(number, arguments) or not row_fits(number, row):
        return [-1]
    if number == 0:
        return deal(line, arguments[0], arguments[1], row)
    if line.board is None:
        return [-3]
    return do_call(line, number, arguments)


def answers(calls):
    line = Line()
    given = []
    place = 0
    while place < len(calls):
        number = calls[place]
        start = place + 1
        place = start + argument_count(number)
        arguments = calls[start:place]
        row = []
        if has_row(number):
            start = place + 1
            place = start + calls[place]
            row = calls[start:place]
        answer = answer_to(line, number, arguments, row)
        given.append(len(answer))
        given.extend(answer)
    return given
