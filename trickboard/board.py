"""The way in: a list of calls is read, and the list of their answers is given back."""

from trickboard.forms import argument_count, arguments_fit, has_row, row_fits
from trickboard.line import Line, agree, claim, deal, decide, duty, mend, play, script, undo
from trickboard.questions import faced, hand, legal, revokes, score, table, text, trick, whose


def do_deed(line, number, arguments, row):
    if number == 1:
        return play(line, arguments[0], arguments[1])
    if number == 2:
        return decide(line, arguments[0])
    if number == 3:
        return mend(line, arguments[0])
    if number == 4:
        return duty(line, arguments[0], arguments[1])
    if number == 5:
        return claim(line, arguments[0], arguments[1])
    if number == 6:
        return agree(line, arguments[0])
    if number == 7:
        return undo(line, arguments[0])
    return script(line, row)


def tell(board, number, arguments):
    if number == 8:
        return table(board)
    if number == 9:
        return hand(board, arguments[0])
    if number == 10:
        return legal(board)
    if number == 11:
        return trick(board, arguments[0])
    if number == 12:
        return faced(board)
    if number == 13:
        return revokes(board)
    if number == 14:
        return score(board)
    if number == 15:
        return text(board)
    return whose(board, arguments[0])


def answer_to(line, number, arguments, row):
    if not arguments_fit(number, arguments) or not row_fits(number, row):
        return [-1]
    if number == 0:
        return deal(line, arguments[0], arguments[1], row)
    if line.board is None:
        return [-3]
    if number < 8 or number == 16:
        return do_deed(line, number, arguments, row)
    return tell(line.board, number, arguments)


def answers(calls):
    line = Line()
    given = []
    place = 0
    while place < len(calls):
        number = calls[place]
        start = place + 1
        place = start + argument_count(number)
        arguments = calls[start:place]
        row = []
        if has_row(number):
            start = place + 1
            place = start + calls[place]
            row = calls[start:place]
        answer = answer_to(line, number, arguments, row)
        given.append(len(answer))
        given.extend(answer)
    return given
