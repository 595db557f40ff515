"""What the tests share: calls written with cards as texts, and checks of their answers."""

import unittest

from trickboard.board import answers

SUITS = "CDHS"
RANKS = "23456789TJQKA"
NO_TRUMPS = 4
FAR = 10**18


def card(text):
    return SUITS.index(text[0]) * 13 + RANKS.index(text[1])


def row_of(hands):
    """The row of deal for four texts of cards."""
    row = [4] * 52
    for seat, hand in enumerate(hands):
        for text in hand.split():
            row[card(text)] = seat
    return row


def raw_deal(declarer, trump, row):
    return [0, declarer, trump, len(row)] + row


def deal(declarer, trump, hands):
    return raw_deal(declarer, trump, row_of(hands))


def play(seat, text):
    return [1, seat, card(text)]


def plays(text):
    """'1:C2 2:C3' as a list of play calls."""
    return [play(int(word[0]), word[2:]) for word in text.split()]


ACCEPT = [2, 1]
WITHDRAW = [2, 0]


def mend(text):
    return [3, card(text)]


def duty(kind, suit):
    return [4, kind, SUITS.index(suit)]


def claim(side, n):
    return [5, side, n]


AGREE = [6, 1]
FORGET = [6, 0]


def undo(k):
    return [7, k]


TABLE = [8]
LEGAL = [10]
FACED = [12]
REVOKES = [13]
SCORE = [14]
TEXT = [15]


def hand(seat):
    return [9, seat]


def trick(number):
    return [11, number]


def raw_script(numbers):
    return [16, len(numbers)] + numbers


def script(text):
    return raw_script(list(text.encode("ascii")))


def whose(text):
    return [17, card(text)]


# All that can be asked of a board, but for whose, which the hands, the text and the table tell too.
QUESTIONS = [TABLE, LEGAL, FACED, REVOKES, SCORE, TEXT] + [hand(seat) for seat in range(4)]
QUESTIONS += [trick(number) for number in range(1, 14)]


def cards(text):
    """The answer that is these cards: 'C2 D3'."""
    return [0] + [card(word) for word in text.split()]


def pairs(text):
    """The answer that is seats and cards: '1:C2 2:C3'."""
    answer = [0]
    for word in text.split():
        answer += [int(word[0]), card(word[2:])]
    return answer


def won_trick(winner, text):
    """The answer to a trick call."""
    return [0, winner] + pairs(text)[1:]


def bytes_of(text):
    """The answer that is this text."""
    return [0] + list(text.encode("ascii"))


def table(turn, finished, left, over=0, waits=0, kind=0, suit=0, on_table=""):
    """The answer to a table call; on_table is '1:C2 2:C3'."""
    return [0, turn, finished, left, over, waits, kind, suit] + pairs(on_table)[1:]


def split_answers(given):
    found = []
    place = 0
    while place < len(given):
        count = given[place]
        found.append(given[place + 1:place + 1 + count])
        place += 1 + count
    return found


def run(calls):
    """The answers to a list of calls, one list each."""
    line = [number for call in calls for number in call]
    found = split_answers(answers(line))
    if len(found) != len(calls):
        raise AssertionError(f"{len(calls)} calls have {len(found)} answers")
    return found


def things_done(calls, found):
    """How many things undo can take back behind these calls, which have these answers."""
    done = 0
    for call, answer in zip(calls, found):
        if answer[0] != 0:
            continue
        if call[0] == 0:
            done = 0
        elif 1 <= call[0] <= 6:
            done += 1
        elif call[0] == 7:
            done -= call[1]
        elif call[0] == 16:
            done += answer[1]
    return done


class BoardCase(unittest.TestCase):

    def check(self, before, *asked):
        """The calls before aren't refused; then each call has the answer that stands beside it."""
        found = run(before + [call for call, answer in asked])
        self.check_done(before, found)
        for place, (call, answer) in enumerate(asked):
            self.assertEqual(found[len(before) + place], answer, (place, call))

    def check_done(self, before, found):
        for call, answer in zip(before, found):
            self.assertEqual(answer[0], 0, (call, answer))

    def check_refused(self, before, call, refusal):
        """The call is refused, and changes nothing."""
        self.check_changes_nothing(before, call, [refusal])

    def check_changes_nothing(self, before, call, expected):
        """The call has this answer; neither what can be asked nor the count of things done is another then."""
        first = run(before)
        self.check_done(before, first)
        done = things_done(before, first)
        found = run(before + QUESTIONS + [call] + QUESTIONS + [undo(done + 1), undo(done)] + QUESTIONS)
        found = found[len(before):]
        count = len(QUESTIONS)
        self.assertEqual(found[count], expected, call)
        self.assertEqual(found[count + 1:2 * count + 1], found[:count], call)
        self.assertEqual(found[2 * count + 1:2 * count + 3], [[-15], [0]], call)
        deals = [other for other in before if other[0] == 0]
        self.assertEqual(found[2 * count + 3:], run(deals[-1:] + QUESTIONS)[len(deals[-1:]):], call)
