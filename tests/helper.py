"""What the tests share: calls written with cards as texts, and checks of their answers."""

import unittest

from trickboard.board import answers

SUITS = "CDHS"
RANKS = "23456789TJQKA"
NO_TRUMPS = 4
FAR = 10**18


def card(text):
    return SUITS.index(text[0]) * 13 + RANKS.index(text[1])


def row_of(hands):
    """The row of deal for four texts of cards."""
    row = [4] * 52
    for seat, hand in enumerate(hands):
        for text in hand.split():
            row[card(text)] = seat
    return row


def raw_deal(declarer, trump, row):
    return [0, declarer, trump, len(row)] + row


def deal(declarer, trump, hands):
    return raw_deal(declarer, trump, row_of(hands))


def play(seat, text):
    return [1, seat, card(text)]


def plays(text):
    """'1:C2 2:C3' as a list of play calls."""
    return [play(int(word[0]), word[2:]) for word in text.split()]


ACCEPT = [2, 1]
WITHDRAW = [2, 0]


def mend(text):
    return [3, card(text)]


def duty(kind, suit):
    return [4, kind, SUITS.index(suit)]


def claim(side, n):
    return [5, side, n]


AGREE = [6, 1]
FORGET = [6, 0]


def undo(k):
    return [7, k]


TABLE = [8]


def table(turn, finished, left, over=0, waits=0, kind=0, suit=0, on_table=""):
    """The answer to a table call; on_table is '1:C2 2:C3'."""
    answer = [0, turn, finished, left, over, waits, kind, suit]
    for word in on_table.split():
        answer += [int(word[0]), card(word[2:])]
    return answer


def split_answers(given):
    found = []
    place = 0
    while place < len(given):
        count = given[place]
        found.append(given[place + 1:place + 1 + count])
        place += 1 + count
    return found


def run(calls):
    """The answers to a list of calls, one list each."""
    line = [number for call in calls for number in call]
    found = split_answers(answers(line))
    if len(found) != len(calls):
        raise AssertionError(f"{len(calls)} calls have {len(found)} answers")
    return found


class BoardCase(unittest.TestCase):

    def check(self, before, *pairs):
        """The calls before aren't refused; then each call has the answer that stands beside it."""
        found = run(before + [call for call, answer in pairs])
        for call, answer in zip(before, found):
            self.assertEqual(answer[0], 0, (call, answer))
        for place, (call, answer) in enumerate(pairs):
            self.assertEqual(found[len(before) + place], answer, (place, call))

    def check_refused(self, before, call, refusal):
        """The call is refused, and neither the table nor the count of things done is another then."""
        done = len([1 for other in before if 1 <= other[0] <= 6])
        found = run(before + [TABLE, call, TABLE, undo(done + 1), undo(done), TABLE])
        for other, answer in zip(before, found):
            self.assertEqual(answer[0], 0, (other, answer))
        shown, refused, after, too_many, undone, start = found[len(before):]
        self.assertEqual(refused, [refusal], call)
        self.assertEqual(after, shown, call)
        self.assertEqual(too_many, [-15], call)
        self.assertEqual(undone, [0], call)
        self.assertEqual(start, run([before[0], TABLE])[1], call)
