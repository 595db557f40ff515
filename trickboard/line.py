"""The calls that do something: 0 to 7, and 16, each with its refusals, on the boards of one line of calls."""

from trickboard.deeds import give_duty, lay_face_up, put_down, put_down_revoke, take_back_revoke
from trickboard.state import (
    Board,
    busy_refusal,
    can_get_duty,
    dummy_of,
    following_cards,
    is_defender,
    legal_cards,
    next_board,
    pressing_cards,
    seat_on_turn,
    tricks_left,
)
from trickboard.texts import card_of, words_of

PLAYED = 0
WAITS = 1
PLAYED_AS_REVOKE = 2
LIES_FACE_UP = 3
BACK_IN_HAND = 4

ALL_PLAYED = 0
NO_CARD = 1
PLAY_REFUSED = 2


class Line:
    """The board that stands now, or None, and the boards before each thing that was done on it."""

    def __init__(self):
        self.board = None
        self.past = []


def step(line, later):
    line.past.append(line.board)
    line.board = later


def deal(line, declarer, trump, row):
    hands = [[], [], [], []]
    for card, seat in enumerate(row):
        if seat < 4:
            hands[seat].append(card)
    size = len(hands[0])
    if size == 0 or any([len(hand) != size for hand in hands]):
        return [-2]
    line.board = Board(declarer, trump, size, hands)
    line.past = []
    return [0, size]


def turn_refusal(board, seat, card):
    """Why the seat on turn can't play this card of its hand, not even as a revoke; 0 if it can."""
    if card in legal_cards(board):
        return 0
    if not board.table or card in following_cards(board) or pressing_cards(board):
        return -7
    if seat == dummy_of(board):
        return -8
    return 0


def play_refusal(board, seat, card):
    refusal = busy_refusal(board)
    if refusal != 0:
        return refusal
    if card not in board.hands[seat]:
        return -6
    if seat != seat_on_turn(board):
        return 0
    return turn_refusal(board, seat, card)


def play(line, seat, card):
    refusal = play_refusal(line.board, seat, card)
    if refusal != 0:
        return [refusal]
    later = next_board(line.board)
    if seat != seat_on_turn(later):
        later.waiting_card = (seat, card)
        happened = WAITS
    elif card in legal_cards(later):
        put_down(later, seat, card)
        happened = PLAYED
    else:
        put_down_revoke(later, seat, card)
        happened = PLAYED_AS_REVOKE
    step(line, later)
    return [0, happened]


def decide(line, y):
    if line.board.waiting_card is None:
        return [-9]
    if y == 1 and line.board.table:
        return [-10]
    seat = line.board.waiting_card[0]
    card = line.board.waiting_card[1]
    later = next_board(line.board)
    later.waiting_card = None
    if y == 1:
        put_down(later, seat, card)
        happened = PLAYED
    else:
        lay_face_up(later, seat, card)
        happened = LIES_FACE_UP if is_defender(later, seat) else BACK_IN_HAND
    step(line, later)
    return [0, happened]


def mend(line, card):
    if not line.board.fresh:
        return [-11]
    later = next_board(line.board)
    wrong_card = take_back_revoke(later)
    if card not in legal_cards(later):
        return [-7]
    seat = seat_on_turn(later)
    put_down(later, seat, card)
    lay_face_up(later, seat, wrong_card)
    step(line, later)
    return [0, 0]


def duty(line, kind, suit):
    refusal = busy_refusal(line.board)
    if refusal != 0:
        return [refusal]
    if not can_get_duty(line.board, suit):
        return [-12]
    later = next_board(line.board)
    give_duty(later, kind, suit)
    step(line, later)
    return [0, 0]


def claim(line, side, n):
    refusal = busy_refusal(line.board)
    if refusal != 0:
        return [refusal]
    if line.board.table:
        return [-14]
    if n > tricks_left(line.board):
        return [-13]
    later = next_board(line.board)
    later.waiting_claim = (side, n)
    step(line, later)
    return [0, 0]


def agree(line, y):
    if line.board.waiting_claim is None:
        return [-9]
    later = next_board(line.board)
    if y == 1:
        later.agreed_claim = later.waiting_claim
    later.waiting_claim = None
    step(line, later)
    return [0, 1 - y]


def undo(line, k):
    kept = len(line.past) - k
    if kept < 0:
        return [-15]
    if k > 0:
        line.board = line.past[kept]
        line.past = line.past[:kept]
    return [0]


def script(line, text):
    played = 0
    for start, word in words_of(text):
        card = card_of(word)
        if card is None:
            return [0, played, NO_CARD, 0, start]
        answer = play(line, seat_on_turn(line.board), card)
        if answer[0] != 0:
            return [0, played, PLAY_REFUSED, answer[0], start]
        played += 1
    return [0, played, ALL_PLAYED, 0, 0]
